/- Dirt in the next slot changes nothing that was, but the slot is skipped (ScanDirt); no condition. -/
import Derived.Test.YtoemjfjmpmngeadScanLaw
import Derived.Test.YtoemjfjmpmngeadBankRef
import Derived.Deep.RegionHeld3
import Derived.WalkLawsBesides
import Derived.WalkSpells
import Derived.IntWalk
import Derived.Lib.Hide
import Derived.Test.YtoemjfjmpmngeadBox
import Derived.Test.YtoemjfjmpmngeadLayout
import Derived.ProofKit
import Derived.OpenShut
import Derived.ChangeMaps5
import Derived.Test.YtoemjfjmpmngeadInts
namespace Go.Proofs.Ytoemjfjmpmngead.ScanDirt
open Go.ChangeShapes Go.WideShapes Go.ChangeAt Go.RowKit Go.ChangeMaps
set_option linter.unusedVariables false
set_option linter.unusedSimpArgs false
theorem st_index (l : List UInt8) {i j : Int} (hi : i ≠ 0) (hj : j ≠ 0) : stOf l i = stOf l j := by
  have e : ((decR l).kind = 1 ↔ i = 0) ↔ ((decR l).kind = 1 ↔ j = 0) := by constructor <;> intro h <;> constructor <;> intro h2 <;> first | exact absurd h2 (by assumption) | exact absurd (h.1 h2) (by assumption)
  unfold stOf
  by_cases h5 : decE l = 5
  · rw [if_pos h5, if_pos h5]
  · rw [if_neg h5, if_neg h5]
    by_cases h : decE l = 0 ∧ ((decR l).kind = 1 ↔ i = 0)
    · rw [if_pos h, if_pos ⟨h.1, e.1 h.2⟩]
    · rw [if_neg h, if_neg (fun x => h ⟨x.1, e.2 x.2⟩)]
theorem st_two (d : ByteArray) (h : d.size = 24) : stateF (blankT 24 ++ d) 1 = stOf (bl d) 1 := by
  have := (slot_mid (a := blankT (24 * 1)) (t := d) (c := ⟨#[]⟩) (n := 1) (i := 1) ⟨Nat.le_refl _, by decide⟩ (Nat.le_refl _) (blankT_len _) h rfl).2.1
  rw [show blankT (24 * 1) ++ d ++ ⟨#[]⟩ = blankT 24 ++ d from by apply bl_inj; rw [bl_append]; simp [bl]] at this
  rw [stateF, show slotT (blankT 24 ++ d) 1 = d from this]

set_option maxRecDepth 100000 in
set_option maxHeartbeats 8000000 in
theorem dway1 (s d : ByteArray) (x : Rec) (E : Int) (k n g0 : Nat) (W : World) (h1 : s.size ≤ 400) (hd : d.size = 24) (hkn : k + 1 ≤ n) (hn : n ≤ 12) (hz : s.size = 24 * n + 24) (hg : g0 ≤ 12)
    (hl : k + 1 = n)
    (cL : ∀ V : World, Calls Try.prog 21 #[.int .i64 (s.size : Int)] V fun e W' => e = .returned (.int .i64 (n : Int)) ∧ W' = V) (cK : ∀ V : World, Calls Try.prog 29 #[.string s] V fun e W' => e = .returned (.int .i64 ((k + 1 : Nat) : Int)) ∧ Below V.heap.size V W') (cS : ∀ V : World, Calls Try.prog 22 #[.string (blankT 24 ++ d), .int .i64 1] V fun e W' => e = .returned (.int .i64 1) ∧ Below V.heap.size V W') (cLa : ∀ V : World, Calls Try.prog 25 #[.string s] V fun e W' => e = .returned (.tuple #[.agg #[.int .i64 x.kind, .int .u64 (x.seq : Int), .int .u64 (x.data : Int)], .int .i64 E]) ∧ Below V.heap.size V W') (cGs : ∀ V : World, Calls Try.prog 28 #[.string s] V fun e W' => e = .returned (.int .i64 (g0 : Int)) ∧ Below V.heap.size V W') (cGu : ∀ V : World, Calls Try.prog 28 #[.string (s.extract 0 (24 * (k + 1)) ++ d ++ s.extract (24 * (k + 1) + 24) s.size)] V fun e W' => e = .returned (.int .i64 (g0 : Int)) ∧ Below V.heap.size V W') (cLu : ∀ V : World, Calls Try.prog 25 #[.string (s.extract 0 (24 * (k + 1)) ++ d ++ s.extract (24 * (k + 1) + 24) s.size)] V fun e W' => e = .returned (.tuple #[.agg #[.int .i64 x.kind, .int .u64 (x.seq : Int), .int .u64 (x.data : Int)], .int .i64 E]) ∧ Below V.heap.size V W') (cNu : ∀ V : World, Calls Try.prog 29 #[.string (s.extract 0 (24 * (k + 1)) ++ d ++ s.extract (24 * (k + 1) + 24) s.size)] V fun e W' => e = .returned (.int .i64 0) ∧ Below V.heap.size V W') :
    Calls Try.prog 11 #[.string s, .string d] W fun e W' => e = .returned (.bool true) ∧ Below W.heap.size W W' := by
  have TL := Lib.hid cL
  clear cL
  have TK := Lib.hid cK
  clear cK
  have TS := Lib.hid cS
  clear cS
  have TLa := Lib.hid cLa
  clear cLa
  have TGs := Lib.hid cGs
  clear cGs
  have TGu := Lib.hid cGu
  clear cGu
  have TLu := Lib.hid cLu
  clear cLu
  have TNu := Lib.hid cNu
  clear cNu
  have TB := Lib.hid (fun (V : World) => lawBlank09 24 V (by decide))
  have b1 : ¬ (s.size : Int) > 400 := by omega
  have z1 : s.size ≤ maxLen := by unfold maxLen; omega
  have n2 : ((d.size : Int) != 24) = false := by rw [hd]; rfl
  have n3 : ¬ ((k + 1 : Nat) : Int) < 1 := by omega
  have n4 : ¬ ((k + 1 : Nat) : Int) > (n : Int) := by omega
  have q1 : (blankT 24).size = 24 := blankT_len 24
  have oo : ¬ 9223372036854775807 < (blankT 24).size + d.size := by omega
  have w1 : IntKind.i64.wrap (24 * ((k : Int) + 1)) = 24 * ((k : Int) + 1) := IntWalk.i64_in _ (by omega)
  have w2 : IntKind.i64.wrap (24 * ((k : Int) + 1) + 24) = 24 * ((k : Int) + 1) + 24 := IntWalk.i64_in _ (by omega)
  have w3 : IntKind.i64.wrap ((k : Int) + 1 + 1) = (k : Int) + 1 + 1 := IntWalk.i64_in _ (by omega)
  have t1 : (24 * ((k : Int) + 1)).toNat = 24 * (k + 1) := by omega
  have t2 : (24 * ((k : Int) + 1) + 24).toNat = 24 * (k + 1) + 24 := by omega
  have v0 : (0 : Int) ≤ 24 * ((k : Int) + 1) := by omega
  have v1 : (0 : Int) ≤ 24 * ((k : Int) + 1) + 24 := by omega
  have v2 : 24 * ((k : Int) + 1) ≤ (s.size : Int) := by omega
  have v3 : 24 * ((k : Int) + 1) + 24 ≤ (s.size : Int) := by omega
  have o1 : ¬ 9223372036854775807 < 24 * (k + 1) + d.size := by omega
  have o2 : ¬ 9223372036854775807 < 24 * (k + 1) + d.size + (s.size - (24 * (k + 1) + 24)) := by omega
  have o3 : ¬ 9223372036854775807 < min (24 * (k + 1)) s.size + d.size := by omega
  have o4 : ¬ 9223372036854775807 < min (24 * (k + 1)) s.size + d.size + (s.size - (24 * (k + 1) + 24)) := by omega
  have n5 : ((k : Int) + 1 == (n : Int)) = true := beq_iff_eq.2 (by omega)
  clear h1 hkn hn hz hg hl hd q1
  have hB : Below W.heap.size W W := Below.refl _ _
  go_enter Try.func11, Try.ntmps11
  go_wp2_with fail
  refine (TL.out _).mono ?_
  rintro e w' ⟨rfl, hw⟩
  rw [hw]
  clear hw w'
  go_wp2_with fail
  refine (TK.out _).mono ?_
  rintro e V1 ⟨rfl, hk⟩
  replace hB := below_seq hB hk
  clear hk
  go_wp2_with fail
  refine (TB.out _).mono ?_
  rintro e w' ⟨rfl, hw⟩
  rw [hw]
  clear hw w'
  go_wp2_with fail
  refine (TS.out _).mono ?_
  rintro e V2 ⟨rfl, hk⟩
  replace hB := below_seq hB hk
  clear hk
  go_wp2_with fail
  refine (shown09 _).mono ?_
  rintro e V3 ⟨rfl, hk⟩
  replace hB := below_seq hB hk
  clear hk
  go_wp2_with fail
  generalize V3 = V4 at *
  replace hB := hB.drew
  refine wp_region_held_drew (S := fun w' => True) (by kernel_rfl) ?_ (fun hHeld => ?_)
  · exact trivial
  generalize V4.drew = V5 at *
  refine wpAnyH_take (i := 0) (v := ?_) rfl (by kernel_rfl) (by kernel_rfl) (by kernel_rfl) (fun _ _ _ h => h) (Or.inl ⟨by rfl, ?_⟩) (by assumption) ?_
  rotate_left
  · intro w hSw; (try dsimp only at hSw); go_simp; try with_reducible rfl
  try simp only [Act.put, List.getElem_toArray, List.getElem_cons_zero, List.getElem_cons_succ, List.setIfInBounds_toArray, List.set_cons_zero, List.set_cons_succ]
  refine wpAnyH_take (i := 1) (v := ?_) rfl (by kernel_rfl) (by kernel_rfl) (by kernel_rfl) (fun _ _ _ h => h) (Or.inl ⟨by rfl, ?_⟩) (by assumption) ?_
  rotate_left
  · intro w hSw; (try dsimp only at hSw); go_simp; try with_reducible rfl
  try simp only [Act.put, List.getElem_toArray, List.getElem_cons_zero, List.getElem_cons_succ, List.setIfInBounds_toArray, List.set_cons_zero, List.set_cons_succ]
  refine wpAnyH_take (i := 2) (v := ?_) rfl (by kernel_rfl) (by kernel_rfl) (by kernel_rfl) (fun _ _ _ h => h) (Or.inl ⟨by rfl, ?_⟩) (by assumption) ?_
  rotate_left
  · intro w hSw; (try dsimp only at hSw); go_simp; try with_reducible rfl
  try simp only [Act.put, List.getElem_toArray, List.getElem_cons_zero, List.getElem_cons_succ, List.setIfInBounds_toArray, List.set_cons_zero, List.set_cons_succ]
  refine wpAnyH_take (i := 3) (v := ?_) rfl (by kernel_rfl) (by kernel_rfl) (by kernel_rfl) (fun _ _ _ h => h) (Or.inl ⟨by rfl, ?_⟩) (by assumption) ?_
  rotate_left
  · intro w hSw; (try dsimp only at hSw); go_simp; try with_reducible rfl
  try simp only [Act.put, List.getElem_toArray, List.getElem_cons_zero, List.getElem_cons_succ, List.setIfInBounds_toArray, List.set_cons_zero, List.set_cons_succ]
  refine wpAnyH_take (i := 4) (v := ?_) rfl (by kernel_rfl) (by kernel_rfl) (by kernel_rfl) (fun _ _ _ h => h) (Or.inl ⟨by rfl, ?_⟩) (by assumption) ?_
  rotate_left
  · intro w hSw; (try dsimp only at hSw); go_simp; try with_reducible rfl
  try simp only [Act.put, List.getElem_toArray, List.getElem_cons_zero, List.getElem_cons_succ, List.setIfInBounds_toArray, List.set_cons_zero, List.set_cons_succ]
  refine wpAnyH_take (i := 5) (v := ?_) rfl (by kernel_rfl) (by kernel_rfl) (by kernel_rfl) (fun _ _ _ h => h) (Or.inl ⟨by rfl, ?_⟩) (by assumption) ?_
  rotate_left
  · intro w hSw; (try dsimp only at hSw); go_simp; try with_reducible rfl
  try simp only [Act.put, List.getElem_toArray, List.getElem_cons_zero, List.getElem_cons_succ, List.setIfInBounds_toArray, List.set_cons_zero, List.set_cons_succ]
  refine wpAnyH_take (i := 6) (v := ?_) rfl (by kernel_rfl) (by kernel_rfl) (by kernel_rfl) (fun _ _ _ h => h) (Or.inl ⟨by rfl, ?_⟩) (by assumption) ?_
  rotate_left
  · intro w hSw; (try dsimp only at hSw); go_simp; try with_reducible rfl
  try simp only [Act.put, List.getElem_toArray, List.getElem_cons_zero, List.getElem_cons_succ, List.setIfInBounds_toArray, List.set_cons_zero, List.set_cons_succ]
  refine wpAnyH_take (i := 7) (v := ?_) rfl (by kernel_rfl) (by kernel_rfl) (by kernel_rfl) (fun _ _ _ h => h) (Or.inl ⟨by rfl, ?_⟩) (by assumption) ?_
  rotate_left
  · intro w hSw; (try dsimp only at hSw); go_simp; try with_reducible rfl
  try simp only [Act.put, List.getElem_toArray, List.getElem_cons_zero, List.getElem_cons_succ, List.setIfInBounds_toArray, List.set_cons_zero, List.set_cons_succ]
  refine wpAnyH_take (i := 8) (v := ?_) rfl (by kernel_rfl) (by kernel_rfl) (by kernel_rfl) (fun _ _ _ h => h) (Or.inl ⟨by rfl, ?_⟩) (by assumption) ?_
  rotate_left
  · intro w hSw; (try dsimp only at hSw); go_simp; try with_reducible rfl
  try simp only [Act.put, List.getElem_toArray, List.getElem_cons_zero, List.getElem_cons_succ, List.setIfInBounds_toArray, List.set_cons_zero, List.set_cons_succ]
  refine wpAnyH_take (i := 9) (v := ?_) rfl (by kernel_rfl) (by kernel_rfl) (by kernel_rfl) (fun _ _ _ h => h) (Or.inl ⟨by rfl, ?_⟩) (by assumption) ?_
  rotate_left
  · intro w hSw; (try dsimp only at hSw); go_simp; try with_reducible rfl
  try simp only [Act.put, List.getElem_toArray, List.getElem_cons_zero, List.getElem_cons_succ, List.setIfInBounds_toArray, List.set_cons_zero, List.set_cons_succ]
  refine wpAnyH_take (i := 10) (v := ?_) rfl (by kernel_rfl) (by kernel_rfl) (by kernel_rfl) (fun _ _ _ h => h) (Or.inl ⟨by rfl, ?_⟩) (by assumption) ?_
  rotate_left
  · intro w hSw; (try dsimp only at hSw); go_simp; try with_reducible rfl
  try simp only [Act.put, List.getElem_toArray, List.getElem_cons_zero, List.getElem_cons_succ, List.setIfInBounds_toArray, List.set_cons_zero, List.set_cons_succ]
  refine wpAnyH_take (i := 11) (v := ?_) rfl (by kernel_rfl) (by kernel_rfl) (by kernel_rfl) (fun _ _ _ h => h) (Or.inl ⟨by rfl, ?_⟩) (by assumption) ?_
  rotate_left
  · intro w hSw; (try dsimp only at hSw); go_simp; try with_reducible rfl
  try simp only [Act.put, List.getElem_toArray, List.getElem_cons_zero, List.getElem_cons_succ, List.setIfInBounds_toArray, List.set_cons_zero, List.set_cons_succ]
  refine wpAnyH_take (i := 12) (v := ?_) rfl (by kernel_rfl) (by kernel_rfl) (by kernel_rfl) (fun _ _ _ h => h) (Or.inl ⟨by rfl, ?_⟩) (by assumption) ?_
  rotate_left
  · intro w hSw; (try dsimp only at hSw); go_simp; try with_reducible rfl
  try simp only [Act.put, List.getElem_toArray, List.getElem_cons_zero, List.getElem_cons_succ, List.setIfInBounds_toArray, List.set_cons_zero, List.set_cons_succ]
  refine wpAnyH_done (by kernel_rfl) ?_ _
  clear hHeld
  go_wp2_with fail
  refine (TLa.out _).mono ?_
  rintro e V6 ⟨rfl, hk⟩
  replace hB := below_seq hB hk
  clear hk
  have xa := Box.new 24 V6 [.int .i64 x.kind, .int .u64 (x.seq : Int), .int .u64 (x.data : Int)]
  have le_xa : W.heap.size ≤ V6.heap.size := hB.size
  replace hB := hB.alloc hB.size (.cells #[.int .i64 x.kind, .int .u64 (x.seq : Int), .int .u64 (x.data : Int)] 24)
  have xa0 := xa.cell 0 rfl
  have xaz0 := xa.frozen 0
  have xa1 := xa.cell 1 rfl
  have xaz1 := xa.frozen 1
  have xa2 := xa.cell 2 rfl
  have xaz2 := xa.frozen 2
  go_wp2_with fail
  refine (TLu.out _).mono ?_
  rintro e V7 ⟨rfl, hk⟩
  clear xa0 xaz0 xa1 xaz1 xa2 xaz2
  replace hB := below_seq hB hk
  replace xa := xa.seq hk
  clear hk
  have xb := Box.new 24 V7 [.int .i64 x.kind, .int .u64 (x.seq : Int), .int .u64 (x.data : Int)]
  have ne_xb_xa : V7.heap.size ≠ V6.heap.size := Nat.ne_of_gt xa.lt
  have le_xb : W.heap.size ≤ V7.heap.size := hB.size
  replace xa := xa.alloc (.cells #[.int .i64 x.kind, .int .u64 (x.seq : Int), .int .u64 (x.data : Int)] 24)
  replace hB := hB.alloc hB.size (.cells #[.int .i64 x.kind, .int .u64 (x.seq : Int), .int .u64 (x.data : Int)] 24)
  have xa0 := xa.cell 0 rfl
  have xaz0 := xa.frozen 0
  have xa1 := xa.cell 1 rfl
  have xaz1 := xa.frozen 1
  have xa2 := xa.cell 2 rfl
  have xaz2 := xa.frozen 2
  have xb0 := xb.cell 0 rfl
  have xbz0 := xb.frozen 0
  have xb1 := xb.cell 1 rfl
  have xbz1 := xb.frozen 1
  have xb2 := xb.cell 2 rfl
  have xbz2 := xb.frozen 2
  go_wp2_with fail
  refine (TNu.out _).mono ?_
  rintro e V8 ⟨rfl, hk⟩
  clear xa0 xaz0 xa1 xaz1 xa2 xaz2 xb0 xbz0 xb1 xbz1 xb2 xbz2
  replace hB := below_seq hB hk
  replace xa := xa.seq hk
  replace xb := xb.seq hk
  clear hk
  have xa0 := xa.cell 0 rfl
  have xaz0 := xa.frozen 0
  have xa1 := xa.cell 1 rfl
  have xaz1 := xa.frozen 1
  have xa2 := xa.cell 2 rfl
  have xaz2 := xa.frozen 2
  have xb0 := xb.cell 0 rfl
  have xbz0 := xb.frozen 0
  have xb1 := xb.cell 1 rfl
  have xbz1 := xb.frozen 1
  have xb2 := xb.cell 2 rfl
  have xbz2 := xb.frozen 2
  go_wp2_with fail
  refine (TGu.out _).mono ?_
  rintro e V9 ⟨rfl, hk⟩
  clear xa0 xaz0 xa1 xaz1 xa2 xaz2 xb0 xbz0 xb1 xbz1 xb2 xbz2
  replace hB := below_seq hB hk
  replace xa := xa.seq hk
  replace xb := xb.seq hk
  clear hk
  have xa0 := xa.cell 0 rfl
  have xaz0 := xa.frozen 0
  have xa1 := xa.cell 1 rfl
  have xaz1 := xa.frozen 1
  have xa2 := xa.cell 2 rfl
  have xaz2 := xa.frozen 2
  have xb0 := xb.cell 0 rfl
  have xbz0 := xb.frozen 0
  have xb1 := xb.cell 1 rfl
  have xbz1 := xb.frozen 1
  have xb2 := xb.cell 2 rfl
  have xbz2 := xb.frozen 2
  go_wp2_with fail
  refine (TGs.out _).mono ?_
  rintro e V10 ⟨rfl, hk⟩
  clear xa0 xaz0 xa1 xaz1 xa2 xaz2 xb0 xbz0 xb1 xbz1 xb2 xbz2
  replace hB := below_seq hB hk
  replace xa := xa.seq hk
  replace xb := xb.seq hk
  clear hk
  have xa0 := xa.cell 0 rfl
  have xaz0 := xa.frozen 0
  have xa1 := xa.cell 1 rfl
  have xaz1 := xa.frozen 1
  have xa2 := xa.cell 2 rfl
  have xaz2 := xa.frozen 2
  have xb0 := xb.cell 0 rfl
  have xbz0 := xb.frozen 0
  have xb1 := xb.cell 1 rfl
  have xbz1 := xb.frozen 1
  have xb2 := xb.cell 2 rfl
  have xbz2 := xb.frozen 2
  go_wp2
  go_ret
  exact ⟨rfl, hB⟩

set_option maxRecDepth 100000 in
set_option maxHeartbeats 8000000 in
theorem dway0 (s d : ByteArray) (x : Rec) (E : Int) (k n g0 : Nat) (W : World) (h1 : s.size ≤ 400) (hd : d.size = 24) (hkn : k + 1 ≤ n) (hn : n ≤ 12) (hz : s.size = 24 * n + 24) (hg : g0 ≤ 12)
    (hl : k + 1 ≠ n)
    (cL : ∀ V : World, Calls Try.prog 21 #[.int .i64 (s.size : Int)] V fun e W' => e = .returned (.int .i64 (n : Int)) ∧ W' = V) (cK : ∀ V : World, Calls Try.prog 29 #[.string s] V fun e W' => e = .returned (.int .i64 ((k + 1 : Nat) : Int)) ∧ Below V.heap.size V W') (cS : ∀ V : World, Calls Try.prog 22 #[.string (blankT 24 ++ d), .int .i64 1] V fun e W' => e = .returned (.int .i64 1) ∧ Below V.heap.size V W') (cLa : ∀ V : World, Calls Try.prog 25 #[.string s] V fun e W' => e = .returned (.tuple #[.agg #[.int .i64 x.kind, .int .u64 (x.seq : Int), .int .u64 (x.data : Int)], .int .i64 E]) ∧ Below V.heap.size V W') (cGs : ∀ V : World, Calls Try.prog 28 #[.string s] V fun e W' => e = .returned (.int .i64 (g0 : Int)) ∧ Below V.heap.size V W') (cGu : ∀ V : World, Calls Try.prog 28 #[.string (s.extract 0 (24 * (k + 1)) ++ d ++ s.extract (24 * (k + 1) + 24) s.size)] V fun e W' => e = .returned (.int .i64 (g0 : Int)) ∧ Below V.heap.size V W') (cLu : ∀ V : World, Calls Try.prog 25 #[.string (s.extract 0 (24 * (k + 1)) ++ d ++ s.extract (24 * (k + 1) + 24) s.size)] V fun e W' => e = .returned (.tuple #[.agg #[.int .i64 x.kind, .int .u64 (x.seq : Int), .int .u64 (x.data : Int)], .int .i64 E]) ∧ Below V.heap.size V W') (cNu : ∀ V : World, Calls Try.prog 29 #[.string (s.extract 0 (24 * (k + 1)) ++ d ++ s.extract (24 * (k + 1) + 24) s.size)] V fun e W' => e = .returned (.int .i64 ((k + 2 : Nat) : Int)) ∧ Below V.heap.size V W') :
    Calls Try.prog 11 #[.string s, .string d] W fun e W' => e = .returned (.bool true) ∧ Below W.heap.size W W' := by
  have TL := Lib.hid cL
  clear cL
  have TK := Lib.hid cK
  clear cK
  have TS := Lib.hid cS
  clear cS
  have TLa := Lib.hid cLa
  clear cLa
  have TGs := Lib.hid cGs
  clear cGs
  have TGu := Lib.hid cGu
  clear cGu
  have TLu := Lib.hid cLu
  clear cLu
  have TNu := Lib.hid cNu
  clear cNu
  have TB := Lib.hid (fun (V : World) => lawBlank09 24 V (by decide))
  have b1 : ¬ (s.size : Int) > 400 := by omega
  have z1 : s.size ≤ maxLen := by unfold maxLen; omega
  have n2 : ((d.size : Int) != 24) = false := by rw [hd]; rfl
  have n3 : ¬ ((k + 1 : Nat) : Int) < 1 := by omega
  have n4 : ¬ ((k + 1 : Nat) : Int) > (n : Int) := by omega
  have q1 : (blankT 24).size = 24 := blankT_len 24
  have oo : ¬ 9223372036854775807 < (blankT 24).size + d.size := by omega
  have w1 : IntKind.i64.wrap (24 * ((k : Int) + 1)) = 24 * ((k : Int) + 1) := IntWalk.i64_in _ (by omega)
  have w2 : IntKind.i64.wrap (24 * ((k : Int) + 1) + 24) = 24 * ((k : Int) + 1) + 24 := IntWalk.i64_in _ (by omega)
  have w3 : IntKind.i64.wrap ((k : Int) + 1 + 1) = (k : Int) + 1 + 1 := IntWalk.i64_in _ (by omega)
  have t1 : (24 * ((k : Int) + 1)).toNat = 24 * (k + 1) := by omega
  have t2 : (24 * ((k : Int) + 1) + 24).toNat = 24 * (k + 1) + 24 := by omega
  have v0 : (0 : Int) ≤ 24 * ((k : Int) + 1) := by omega
  have v1 : (0 : Int) ≤ 24 * ((k : Int) + 1) + 24 := by omega
  have v2 : 24 * ((k : Int) + 1) ≤ (s.size : Int) := by omega
  have v3 : 24 * ((k : Int) + 1) + 24 ≤ (s.size : Int) := by omega
  have o1 : ¬ 9223372036854775807 < 24 * (k + 1) + d.size := by omega
  have o2 : ¬ 9223372036854775807 < 24 * (k + 1) + d.size + (s.size - (24 * (k + 1) + 24)) := by omega
  have o3 : ¬ 9223372036854775807 < min (24 * (k + 1)) s.size + d.size := by omega
  have o4 : ¬ 9223372036854775807 < min (24 * (k + 1)) s.size + d.size + (s.size - (24 * (k + 1) + 24)) := by omega
  have n5 : ((k : Int) + 1 == (n : Int)) = false := beq_eq_false_iff_ne.2 (by omega)
  clear h1 hkn hn hz hg hl hd q1
  have hB : Below W.heap.size W W := Below.refl _ _
  go_enter Try.func11, Try.ntmps11
  go_wp2_with fail
  refine (TL.out _).mono ?_
  rintro e w' ⟨rfl, hw⟩
  rw [hw]
  clear hw w'
  go_wp2_with fail
  refine (TK.out _).mono ?_
  rintro e V1 ⟨rfl, hk⟩
  replace hB := below_seq hB hk
  clear hk
  go_wp2_with fail
  refine (TB.out _).mono ?_
  rintro e w' ⟨rfl, hw⟩
  rw [hw]
  clear hw w'
  go_wp2_with fail
  refine (TS.out _).mono ?_
  rintro e V2 ⟨rfl, hk⟩
  replace hB := below_seq hB hk
  clear hk
  go_wp2_with fail
  refine (shown09 _).mono ?_
  rintro e V3 ⟨rfl, hk⟩
  replace hB := below_seq hB hk
  clear hk
  go_wp2_with fail
  generalize V3 = V4 at *
  replace hB := hB.drew
  refine wp_region_held_drew (S := fun w' => True) (by kernel_rfl) ?_ (fun hHeld => ?_)
  · exact trivial
  generalize V4.drew = V5 at *
  refine wpAnyH_take (i := 0) (v := ?_) rfl (by kernel_rfl) (by kernel_rfl) (by kernel_rfl) (fun _ _ _ h => h) (Or.inl ⟨by rfl, ?_⟩) (by assumption) ?_
  rotate_left
  · intro w hSw; (try dsimp only at hSw); go_simp; try with_reducible rfl
  try simp only [Act.put, List.getElem_toArray, List.getElem_cons_zero, List.getElem_cons_succ, List.setIfInBounds_toArray, List.set_cons_zero, List.set_cons_succ]
  refine wpAnyH_take (i := 1) (v := ?_) rfl (by kernel_rfl) (by kernel_rfl) (by kernel_rfl) (fun _ _ _ h => h) (Or.inl ⟨by rfl, ?_⟩) (by assumption) ?_
  rotate_left
  · intro w hSw; (try dsimp only at hSw); go_simp; try with_reducible rfl
  try simp only [Act.put, List.getElem_toArray, List.getElem_cons_zero, List.getElem_cons_succ, List.setIfInBounds_toArray, List.set_cons_zero, List.set_cons_succ]
  refine wpAnyH_take (i := 2) (v := ?_) rfl (by kernel_rfl) (by kernel_rfl) (by kernel_rfl) (fun _ _ _ h => h) (Or.inl ⟨by rfl, ?_⟩) (by assumption) ?_
  rotate_left
  · intro w hSw; (try dsimp only at hSw); go_simp; try with_reducible rfl
  try simp only [Act.put, List.getElem_toArray, List.getElem_cons_zero, List.getElem_cons_succ, List.setIfInBounds_toArray, List.set_cons_zero, List.set_cons_succ]
  refine wpAnyH_take (i := 3) (v := ?_) rfl (by kernel_rfl) (by kernel_rfl) (by kernel_rfl) (fun _ _ _ h => h) (Or.inl ⟨by rfl, ?_⟩) (by assumption) ?_
  rotate_left
  · intro w hSw; (try dsimp only at hSw); go_simp; try with_reducible rfl
  try simp only [Act.put, List.getElem_toArray, List.getElem_cons_zero, List.getElem_cons_succ, List.setIfInBounds_toArray, List.set_cons_zero, List.set_cons_succ]
  refine wpAnyH_take (i := 4) (v := ?_) rfl (by kernel_rfl) (by kernel_rfl) (by kernel_rfl) (fun _ _ _ h => h) (Or.inl ⟨by rfl, ?_⟩) (by assumption) ?_
  rotate_left
  · intro w hSw; (try dsimp only at hSw); go_simp; try with_reducible rfl
  try simp only [Act.put, List.getElem_toArray, List.getElem_cons_zero, List.getElem_cons_succ, List.setIfInBounds_toArray, List.set_cons_zero, List.set_cons_succ]
  refine wpAnyH_take (i := 5) (v := ?_) rfl (by kernel_rfl) (by kernel_rfl) (by kernel_rfl) (fun _ _ _ h => h) (Or.inl ⟨by rfl, ?_⟩) (by assumption) ?_
  rotate_left
  · intro w hSw; (try dsimp only at hSw); go_simp; try with_reducible rfl
  try simp only [Act.put, List.getElem_toArray, List.getElem_cons_zero, List.getElem_cons_succ, List.setIfInBounds_toArray, List.set_cons_zero, List.set_cons_succ]
  refine wpAnyH_take (i := 6) (v := ?_) rfl (by kernel_rfl) (by kernel_rfl) (by kernel_rfl) (fun _ _ _ h => h) (Or.inl ⟨by rfl, ?_⟩) (by assumption) ?_
  rotate_left
  · intro w hSw; (try dsimp only at hSw); go_simp; try with_reducible rfl
  try simp only [Act.put, List.getElem_toArray, List.getElem_cons_zero, List.getElem_cons_succ, List.setIfInBounds_toArray, List.set_cons_zero, List.set_cons_succ]
  refine wpAnyH_take (i := 7) (v := ?_) rfl (by kernel_rfl) (by kernel_rfl) (by kernel_rfl) (fun _ _ _ h => h) (Or.inl ⟨by rfl, ?_⟩) (by assumption) ?_
  rotate_left
  · intro w hSw; (try dsimp only at hSw); go_simp; try with_reducible rfl
  try simp only [Act.put, List.getElem_toArray, List.getElem_cons_zero, List.getElem_cons_succ, List.setIfInBounds_toArray, List.set_cons_zero, List.set_cons_succ]
  refine wpAnyH_take (i := 8) (v := ?_) rfl (by kernel_rfl) (by kernel_rfl) (by kernel_rfl) (fun _ _ _ h => h) (Or.inl ⟨by rfl, ?_⟩) (by assumption) ?_
  rotate_left
  · intro w hSw; (try dsimp only at hSw); go_simp; try with_reducible rfl
  try simp only [Act.put, List.getElem_toArray, List.getElem_cons_zero, List.getElem_cons_succ, List.setIfInBounds_toArray, List.set_cons_zero, List.set_cons_succ]
  refine wpAnyH_take (i := 9) (v := ?_) rfl (by kernel_rfl) (by kernel_rfl) (by kernel_rfl) (fun _ _ _ h => h) (Or.inl ⟨by rfl, ?_⟩) (by assumption) ?_
  rotate_left
  · intro w hSw; (try dsimp only at hSw); go_simp; try with_reducible rfl
  try simp only [Act.put, List.getElem_toArray, List.getElem_cons_zero, List.getElem_cons_succ, List.setIfInBounds_toArray, List.set_cons_zero, List.set_cons_succ]
  refine wpAnyH_take (i := 10) (v := ?_) rfl (by kernel_rfl) (by kernel_rfl) (by kernel_rfl) (fun _ _ _ h => h) (Or.inl ⟨by rfl, ?_⟩) (by assumption) ?_
  rotate_left
  · intro w hSw; (try dsimp only at hSw); go_simp; try with_reducible rfl
  try simp only [Act.put, List.getElem_toArray, List.getElem_cons_zero, List.getElem_cons_succ, List.setIfInBounds_toArray, List.set_cons_zero, List.set_cons_succ]
  refine wpAnyH_take (i := 11) (v := ?_) rfl (by kernel_rfl) (by kernel_rfl) (by kernel_rfl) (fun _ _ _ h => h) (Or.inl ⟨by rfl, ?_⟩) (by assumption) ?_
  rotate_left
  · intro w hSw; (try dsimp only at hSw); go_simp; try with_reducible rfl
  try simp only [Act.put, List.getElem_toArray, List.getElem_cons_zero, List.getElem_cons_succ, List.setIfInBounds_toArray, List.set_cons_zero, List.set_cons_succ]
  refine wpAnyH_take (i := 12) (v := ?_) rfl (by kernel_rfl) (by kernel_rfl) (by kernel_rfl) (fun _ _ _ h => h) (Or.inl ⟨by rfl, ?_⟩) (by assumption) ?_
  rotate_left
  · intro w hSw; (try dsimp only at hSw); go_simp; try with_reducible rfl
  try simp only [Act.put, List.getElem_toArray, List.getElem_cons_zero, List.getElem_cons_succ, List.setIfInBounds_toArray, List.set_cons_zero, List.set_cons_succ]
  refine wpAnyH_done (by kernel_rfl) ?_ _
  clear hHeld
  go_wp2_with fail
  refine (TLa.out _).mono ?_
  rintro e V6 ⟨rfl, hk⟩
  replace hB := below_seq hB hk
  clear hk
  have xa := Box.new 24 V6 [.int .i64 x.kind, .int .u64 (x.seq : Int), .int .u64 (x.data : Int)]
  have le_xa : W.heap.size ≤ V6.heap.size := hB.size
  replace hB := hB.alloc hB.size (.cells #[.int .i64 x.kind, .int .u64 (x.seq : Int), .int .u64 (x.data : Int)] 24)
  have xa0 := xa.cell 0 rfl
  have xaz0 := xa.frozen 0
  have xa1 := xa.cell 1 rfl
  have xaz1 := xa.frozen 1
  have xa2 := xa.cell 2 rfl
  have xaz2 := xa.frozen 2
  go_wp2_with fail
  refine (TLu.out _).mono ?_
  rintro e V7 ⟨rfl, hk⟩
  clear xa0 xaz0 xa1 xaz1 xa2 xaz2
  replace hB := below_seq hB hk
  replace xa := xa.seq hk
  clear hk
  have xb := Box.new 24 V7 [.int .i64 x.kind, .int .u64 (x.seq : Int), .int .u64 (x.data : Int)]
  have ne_xb_xa : V7.heap.size ≠ V6.heap.size := Nat.ne_of_gt xa.lt
  have le_xb : W.heap.size ≤ V7.heap.size := hB.size
  replace xa := xa.alloc (.cells #[.int .i64 x.kind, .int .u64 (x.seq : Int), .int .u64 (x.data : Int)] 24)
  replace hB := hB.alloc hB.size (.cells #[.int .i64 x.kind, .int .u64 (x.seq : Int), .int .u64 (x.data : Int)] 24)
  have xa0 := xa.cell 0 rfl
  have xaz0 := xa.frozen 0
  have xa1 := xa.cell 1 rfl
  have xaz1 := xa.frozen 1
  have xa2 := xa.cell 2 rfl
  have xaz2 := xa.frozen 2
  have xb0 := xb.cell 0 rfl
  have xbz0 := xb.frozen 0
  have xb1 := xb.cell 1 rfl
  have xbz1 := xb.frozen 1
  have xb2 := xb.cell 2 rfl
  have xbz2 := xb.frozen 2
  go_wp2_with fail
  refine (TNu.out _).mono ?_
  rintro e V8 ⟨rfl, hk⟩
  clear xa0 xaz0 xa1 xaz1 xa2 xaz2 xb0 xbz0 xb1 xbz1 xb2 xbz2
  replace hB := below_seq hB hk
  replace xa := xa.seq hk
  replace xb := xb.seq hk
  clear hk
  have xa0 := xa.cell 0 rfl
  have xaz0 := xa.frozen 0
  have xa1 := xa.cell 1 rfl
  have xaz1 := xa.frozen 1
  have xa2 := xa.cell 2 rfl
  have xaz2 := xa.frozen 2
  have xb0 := xb.cell 0 rfl
  have xbz0 := xb.frozen 0
  have xb1 := xb.cell 1 rfl
  have xbz1 := xb.frozen 1
  have xb2 := xb.cell 2 rfl
  have xbz2 := xb.frozen 2
  go_wp2_with fail
  refine (TGu.out _).mono ?_
  rintro e V9 ⟨rfl, hk⟩
  clear xa0 xaz0 xa1 xaz1 xa2 xaz2 xb0 xbz0 xb1 xbz1 xb2 xbz2
  replace hB := below_seq hB hk
  replace xa := xa.seq hk
  replace xb := xb.seq hk
  clear hk
  have xa0 := xa.cell 0 rfl
  have xaz0 := xa.frozen 0
  have xa1 := xa.cell 1 rfl
  have xaz1 := xa.frozen 1
  have xa2 := xa.cell 2 rfl
  have xaz2 := xa.frozen 2
  have xb0 := xb.cell 0 rfl
  have xbz0 := xb.frozen 0
  have xb1 := xb.cell 1 rfl
  have xbz1 := xb.frozen 1
  have xb2 := xb.cell 2 rfl
  have xbz2 := xb.frozen 2
  go_wp2_with fail
  refine (TGs.out _).mono ?_
  rintro e V10 ⟨rfl, hk⟩
  clear xa0 xaz0 xa1 xaz1 xa2 xaz2 xb0 xbz0 xb1 xbz1 xb2 xbz2
  replace hB := below_seq hB hk
  replace xa := xa.seq hk
  replace xb := xb.seq hk
  clear hk
  have xa0 := xa.cell 0 rfl
  have xaz0 := xa.frozen 0
  have xa1 := xa.cell 1 rfl
  have xaz1 := xa.frozen 1
  have xa2 := xa.cell 2 rfl
  have xaz2 := xa.frozen 2
  have xb0 := xb.cell 0 rfl
  have xbz0 := xb.frozen 0
  have xb1 := xb.cell 1 rfl
  have xbz1 := xb.frozen 1
  have xb2 := xb.cell 2 rfl
  have xbz2 := xb.frozen 2
  go_wp2
  go_ret
  exact ⟨rfl, hB⟩


set_option maxRecDepth 100000 in
set_option maxHeartbeats 16000000 in
theorem walk (s : ByteArray) (d : ByteArray) (W : World) (hs : s.size ≤ maxLen) (hd : d.size ≤ maxLen) :
    Calls Try.prog 11 #[.string s, .string d] W fun e W' => e = .returned (.bool true) ∧ Below W.heap.size W W' := by
  have TK := Lib.hid (fun (V : World) => own09Next s V hs)
  have TL := Lib.hid (fun (V : World) => (show Calls Try.prog 21 #[.int .i64 (s.size : Int)] V fun e W' => e = .returned (.int .i64 (slotsN s : Int)) ∧ W' = V from by have h := ref05Slots (s.size : Int) V; rwa [← slotsN_eq] at h))
  by_cases c0 : 400 < s.size
  · have b1 : (s.size : Int) > 400 := by omega
    generalize nextF s = kk at *
    generalize slotsN s = nn at *
    have hB : Below W.heap.size W W := Below.refl _ _
    go_enter Try.func11, Try.ntmps11
    go_wp2_with fail
    refine (TL.out _).mono ?_
    rintro e w' ⟨rfl, hw⟩
    rw [hw]
    clear hw w'
    go_wp2_with fail
    refine (TK.out _).mono ?_
    rintro e V1 ⟨rfl, hk⟩
    replace hB := below_seq hB hk
    clear hk
    go_wp2_with fail
    refine (shown09 _).mono ?_
    rintro e V2 ⟨rfl, hk⟩
    replace hB := below_seq hB hk
    clear hk
    go_wp2
    go_ret
    exact ⟨rfl, hB⟩
  · skip
    by_cases c1 : d.size ≠ 24
    · have b1 : ¬ (s.size : Int) > 400 := by omega
      have n2 : ((d.size : Int) != 24) = true := bne_iff_ne.2 (by omega)
      generalize nextF s = kk at *
      generalize slotsN s = nn at *
      have hB : Below W.heap.size W W := Below.refl _ _
      go_enter Try.func11, Try.ntmps11
      go_wp2_with fail
      refine (TL.out _).mono ?_
      rintro e w' ⟨rfl, hw⟩
      rw [hw]
      clear hw w'
      go_wp2_with fail
      refine (TK.out _).mono ?_
      rintro e V1 ⟨rfl, hk⟩
      replace hB := below_seq hB hk
      clear hk
      go_wp2_with fail
      refine (shown09 _).mono ?_
      rintro e V2 ⟨rfl, hk⟩
      replace hB := below_seq hB hk
      clear hk
      go_wp2
      go_ret
      exact ⟨rfl, hB⟩
    · skip
      by_cases c2 : nextF s = 0
      · have b1 : ¬ (s.size : Int) > 400 := by omega
        have n2 : ((d.size : Int) != 24) = false := by rw [Classical.not_not.1 c1]; rfl
        have d4 : (nextF s : Int) < 1 := by omega
        clear c2
        generalize nextF s = kk at *
        generalize slotsN s = nn at *
        have hB : Below W.heap.size W W := Below.refl _ _
        go_enter Try.func11, Try.ntmps11
        go_wp2_with fail
        refine (TL.out _).mono ?_
        rintro e w' ⟨rfl, hw⟩
        rw [hw]
        clear hw w'
        go_wp2_with fail
        refine (TK.out _).mono ?_
        rintro e V1 ⟨rfl, hk⟩
        replace hB := below_seq hB hk
        clear hk
        go_wp2_with fail
        refine (shown09 _).mono ?_
        rintro e V2 ⟨rfl, hk⟩
        replace hB := below_seq hB hk
        clear hk
        go_wp2
        go_ret
        exact ⟨rfl, hB⟩
      · skip
        have b1 : ¬ (s.size : Int) > 400 := by omega
        have n2 : ((d.size : Int) != 24) = false := by rw [Classical.not_not.1 c1]; rfl
        have hd := Classical.not_not.1 c1
        obtain ⟨k, hk1⟩ : ∃ k, nextF s = k + 1 := ⟨nextF s - 1, by omega⟩
        obtain ⟨q1, q2, q3⟩ := next_all hk1
        have hN := slotsN_le s
        have hNe := slotsN_eq s
        have hsz := slots_size (z := s.size) (by omega)
        have hb24 := blankT_len 24
        have TS := Lib.hid (fun (V : World) => (show Calls Try.prog 22 #[.string (blankT 24 ++ d), .int .i64 1] V fun e W' => e = .returned (.int .i64 (stOf (bl d) 1)) ∧ Below V.heap.size V W' from by have h := own08State (blankT 24 ++ d) 1 V (by unfold maxLen; rw [ByteArray.size_append, hb24, hd]; decide) ⟨by decide, by decide⟩; rwa [st_two d hd] at h))
        rw [hk1] at TK
        by_cases c4 : stOf (bl d) 1 = 1
        · have hst : stOf (bl d) ((k : Int) + 1) = 1 := by rw [st_index (bl d) (i := (k : Int) + 1) (j := 1) (by omega) (by decide)]; exact c4
          rw [c4] at TS
          have hp := scan_put (s := s) (t := d) hk1 hd (by rw [hst]; decide)
          dsimp only at hp
          obtain ⟨p1, _, _, p4, p5, p6⟩ := hp
          rw [hst, if_neg (fun h => absurd h.1 (by decide))] at p6
          rw [hst, if_neg (by decide), Nat.add_zero] at p5
          have zu : (s.extract 0 (24 * (k + 1)) ++ d ++ s.extract (24 * (k + 1) + 24) s.size).size ≤ maxLen := by unfold maxLen; simp; omega
          have TLu := Lib.hid (fun (V : World) => (show Calls Try.prog 25 #[.string (s.extract 0 (24 * (k + 1)) ++ d ++ s.extract (24 * (k + 1) + 24) s.size)] V fun e W' => e = .returned (.tuple #[.agg #[.int .i64 (lastR s).kind, .int .u64 ((lastR s).seq : Int), .int .u64 ((lastR s).data : Int)], .int .i64 (lastE s)]) ∧ Below V.heap.size V W' from by
            have h := own09Last _ V zu
            rwa [show lastR (s.extract 0 (24 * (k + 1)) ++ d ++ s.extract (24 * (k + 1) + 24) s.size) = lastR s from by unfold lastR; rw [p6], show lastE (s.extract 0 (24 * (k + 1)) ++ d ++ s.extract (24 * (k + 1) + 24) s.size) = lastE s from by unfold lastE; rw [p6]] at h))
          have TGu := Lib.hid (fun (V : World) => (show Calls Try.prog 28 #[.string (s.extract 0 (24 * (k + 1)) ++ d ++ s.extract (24 * (k + 1) + 24) s.size)] V fun e W' => e = .returned (.int .i64 (goodN s : Int)) ∧ Below V.heap.size V W' from by have h := own09Good _ V zu; rwa [p5] at h))
          have TNu := fun (V : World) => own09Next (s.extract 0 (24 * (k + 1)) ++ d ++ s.extract (24 * (k + 1) + 24) s.size) V zu
          rw [p4] at TNu
          have hg := goodG_le s (slotsN s)
          have hsn : s.size = 24 * slotsN s + 24 := by omega
          by_cases hl : k + 1 = slotsN s
          · rw [if_pos hl] at TNu
            exact dway1 s d (lastR s) (lastE s) k (slotsN s) (goodN s) W (by omega) hd (by omega) hN hsn (by unfold goodN; omega) hl TL.out TK.out TS.out (fun V => own09Last s V hs) (fun V => own09Good s V hs) TGu.out TLu.out TNu
          · rw [if_neg hl] at TNu
            exact dway0 s d (lastR s) (lastE s) k (slotsN s) (goodN s) W (by omega) hd (by omega) hN hsn (by unfold goodN; omega) hl TL.out TK.out TS.out (fun V => own09Last s V hs) (fun V => own09Good s V hs) TGu.out TLu.out TNu
        · have n6 : (stOf (bl d) 1 != 1) = true := bne_iff_ne.2 c4
          have n3 : ¬ ((k + 1 : Nat) : Int) < 1 := by omega
          have n4 : ¬ ((k + 1 : Nat) : Int) > (slotsN s : Int) := by omega
          have oo : ¬ 9223372036854775807 < (blankT 24).size + d.size := by omega
          have TB := Lib.hid (fun (V : World) => lawBlank09 24 V (by decide))
          clear c0 c1 c2 c4 q1 q2 q3 hN hNe hsz hk1
          generalize stOf (bl d) 1 = st at *
          generalize slotsN s = nn at *
          have hB : Below W.heap.size W W := Below.refl _ _
          go_enter Try.func11, Try.ntmps11
          go_wp2_with fail
          refine (TL.out _).mono ?_
          rintro e w' ⟨rfl, hw⟩
          rw [hw]
          clear hw w'
          go_wp2_with fail
          refine (TK.out _).mono ?_
          rintro e V1 ⟨rfl, hk⟩
          replace hB := below_seq hB hk
          clear hk
          go_wp2_with fail
          refine (TB.out _).mono ?_
          rintro e w' ⟨rfl, hw⟩
          rw [hw]
          clear hw w'
          go_wp2_with fail
          refine (TS.out _).mono ?_
          rintro e V2 ⟨rfl, hk⟩
          replace hB := below_seq hB hk
          clear hk
          go_wp2_with fail
          refine (shown09 _).mono ?_
          rintro e V3 ⟨rfl, hk⟩
          replace hB := below_seq hB hk
          clear hk
          go_wp2
          go_ret
          exact ⟨rfl, hB⟩

theorem own : ownKnob Try.prog.godebug = none := by kernel_rfl

set_option maxRecDepth 100000 in
theorem lifted (os : Os) (started : os.Started) (H : Type) (enc : TypeId × Value → H) :
    ReturnsInHanded {} Try.checked os 11 .any (Rows.scanDirtSpec.pre6 enc Try.prog Try.f11 Rows.scanDirtRow.domain false) (Rows.scanDirtSpec.post enc Try.prog Try.f11 false true false false) := by
  refine returnsInHanded_of_change (C := Try.checked) own started (by kernel_rfl) Try.func11
    (ChangeSpec.witness6 (enc := enc) (C := Try.checked) false ⟨#[], #[.string ⟨#[]⟩, .string ⟨#[]⟩], []⟩ 8 (by kernel_rfl) (by kernel_rfl) (by kernel_rfl) (by kernel_rfl)) ?_
  intro W base args ds gs before hval hW _ _
  have hW' := hW
  obtain ⟨p, q, hA0, hV, rfl, hfz, hnd⟩ := hW
  have hA : DataW.TrodAll enc Try.prog W 0 (fun _ => true) true Try.f11.params.toList args.toList ds p := hA0
  rw [Try.params11] at hA hval
  obtain ⟨v0, vs0, d0, ds0, p0, q0, hargs, rfl, rfl, h0, r0⟩ := trodAll_cons hA
  obtain ⟨v1, vs1, d1, ds1, p1, q1, rfl, rfl, rfl, h1, r1⟩ := trodAll_cons r0
  obtain ⟨rfl, rfl, rfl⟩ := trodAll_nil r1
  obtain rfl : args = #[v0, v1] := by cases args; simp_all
  obtain ⟨rfl, rfl⟩ := trodVars_none hV
  obtain ⟨s0, rfl, rfl, rfl, hs0⟩ := open_string Try.underlying9 (hval 0 9 v0 rfl rfl) h0
  obtain ⟨s1, rfl, rfl, rfl, hs1⟩ := open_string Try.underlying9 (hval 1 9 v1 rfl rfl) h1
  clear hA0
  simp only [List.append_nil] at hW'
  refine (walk s0 s1 W hs0 hs1).mono fun e W' ⟨he, hB⟩ => ?_
  subst he
  exact ⟨_, rfl, ⟨_, _, _, [], _, [], hW', trodAll_cons_mk (shut_bool Try.underlying4 _) trodAll_mk0, (trodAll_cons_mk (shut_string Try.underlying9 hs0) (trodAll_cons_mk (shut_string Try.underlying9 hs1) trodAll_mk0)), rfl, hB.frame _, fun h => by cases h⟩⟩

theorem holds : Rows.ScanDirtSaid :=
  OpenClaim.holds_of_wide 11 Try.f11 rfl rfl rfl rfl rfl rfl rfl ⟨rfl, rfl, rfl, rfl, rfl⟩ rfl rfl rfl rfl rfl (by kernel_rfl) Try.func11 (by kernel_rfl)
    (of_decide_eq_true (by kernel_rfl)) (by unfold Func.isWrapper; first | (rw [if_pos (by decide +kernel)]; kernel_rfl) | (rw [if_neg (by decide +kernel)]; exact ⟨rfl, rfl⟩))
    (fun os started H enc _ => lifted os started H enc)
end Go.Proofs.Ytoemjfjmpmngead.ScanDirt

/- The laws' own helpers of layer 10: contracts only. -/
import Derived.Test.YtejhbamlnkhfcaaRows
import Derived.Test.YtejhbamlnkhfcaaPlanRes
import Derived.Test.YtejhbamlnkhfcaaBox
import Derived.Test.YtejhbamlnkhfcaaInts
import Derived.WalkKit
import Derived.ProofKit
import Derived.Lib.Hide
import Derived.Test.YtejhbamlnkhfcaaPickOwn
import Derived.Test.YtejhbamlnkhfcaaPickRef
import Derived.Test.YtejhbamlnkhfcaaRecOwn
import Derived.Test.YtejhbamlnkhfcaaFlashOwn
import Derived.Test.YtejhbamlnkhfcaaFlashOpen
import Derived.Deep.RegionHeld3
import Derived.WalkLawsBesides
import Derived.WalkSpells
import Derived.IntWalk
namespace Go.Proofs.Ytejhbamlnkhfcaa
open Go.RowKit
set_option linter.unusedVariables false
set_option linter.unusedSimpArgs false

def big10 (f : Fl) : Bool := decide ((400 : Int) < (f.b0.size : Int)) || decide ((400 : Int) < (f.b1.size : Int))
theorem big10_no {f : Fl} (h : big10 f = false) : f.b0.size ≤ 400 ∧ f.b1.size ≤ 400 := by unfold big10 at h; simp at h; omega

set_option maxRecDepth 100000 in
set_option maxHeartbeats 4000000 in
theorem law10Big (f : Fl) (W : World) : Calls Try.prog 7 #[.agg #[.string f.b0, .string f.b1, .int .i64 f.e0, .int .i64 f.e1, .int .i64 f.lim]] W fun e W' => e = .returned (.bool (big10 f)) ∧ Below W.heap.size W W' := by
  by_cases h : 400 < f.b0.size
  · have hb : big10 f = true := by unfold big10; rw [decide_eq_true (by omega : (400 : Int) < (f.b0.size : Int))]; rfl
    have m1 : (f.b0.size : Int) > 400 := by omega
    rw [hb]
    clear hb h
    have hB : Below W.heap.size W (W.alloc (.cells #[.string f.b0, .string f.b1, .int .i64 f.e0, .int .i64 f.e1, .int .i64 f.lim] 25)) := ((Below.refl _ _).alloc (Nat.le_refl _) _)
    have xf := (Box.new 25 W [.string f.b0, .string f.b1, .int .i64 f.e0, .int .i64 f.e1, .int .i64 f.lim])
    go_enter Try.func7, Try.ntmps7
    have xf0 := xf.cell 0 rfl
    have xfz0 := xf.frozen 0
    have xf1 := xf.cell 1 rfl
    have xfz1 := xf.frozen 1
    have xf2 := xf.cell 2 rfl
    have xfz2 := xf.frozen 2
    have xf3 := xf.cell 3 rfl
    have xfz3 := xf.frozen 3
    have xf4 := xf.cell 4 rfl
    have xfz4 := xf.frozen 4
    go_wp2
    go_ret
    exact ⟨rfl, hB⟩
  · have m1 : ¬ (f.b0.size : Int) > 400 := by omega
    have hb : big10 f = decide ((400 : Int) < (f.b1.size : Int)) := by unfold big10; rw [decide_eq_false (by omega : ¬ (400 : Int) < (f.b0.size : Int))]; rfl
    rw [hb]
    clear hb h
    by_cases h2 : 400 < f.b1.size
    · have m2 : (f.b1.size : Int) > 400 := by omega
      rw [decide_eq_true (by omega : (400 : Int) < (f.b1.size : Int))]
      clear h2
      have hB : Below W.heap.size W (W.alloc (.cells #[.string f.b0, .string f.b1, .int .i64 f.e0, .int .i64 f.e1, .int .i64 f.lim] 25)) := ((Below.refl _ _).alloc (Nat.le_refl _) _)
      have xf := (Box.new 25 W [.string f.b0, .string f.b1, .int .i64 f.e0, .int .i64 f.e1, .int .i64 f.lim])
      go_enter Try.func7, Try.ntmps7
      have xf0 := xf.cell 0 rfl
      have xfz0 := xf.frozen 0
      have xf1 := xf.cell 1 rfl
      have xfz1 := xf.frozen 1
      have xf2 := xf.cell 2 rfl
      have xfz2 := xf.frozen 2
      have xf3 := xf.cell 3 rfl
      have xfz3 := xf.frozen 3
      have xf4 := xf.cell 4 rfl
      have xfz4 := xf.frozen 4
      go_wp2
      go_ret
      exact ⟨rfl, hB⟩
    · have m2 : ¬ (f.b1.size : Int) > 400 := by omega
      rw [decide_eq_false (by omega : ¬ (400 : Int) < (f.b1.size : Int))]
      clear h2
      have hB : Below W.heap.size W (W.alloc (.cells #[.string f.b0, .string f.b1, .int .i64 f.e0, .int .i64 f.e1, .int .i64 f.lim] 25)) := ((Below.refl _ _).alloc (Nat.le_refl _) _)
      have xf := (Box.new 25 W [.string f.b0, .string f.b1, .int .i64 f.e0, .int .i64 f.e1, .int .i64 f.lim])
      go_enter Try.func7, Try.ntmps7
      have xf0 := xf.cell 0 rfl
      have xfz0 := xf.frozen 0
      have xf1 := xf.cell 1 rfl
      have xfz1 := xf.frozen 1
      have xf2 := xf.cell 2 rfl
      have xfz2 := xf.frozen 2
      have xf3 := xf.cell 3 rfl
      have xfz3 := xf.frozen 3
      have xf4 := xf.cell 4 rfl
      have xfz4 := xf.frozen 4
      go_wp2
      go_ret
      exact ⟨rfl, hB⟩

theorem one_fresh (g seq d : Nat) : bs (encL ⟨1, g, 0⟩) ++ bs (encL ⟨3, seq, d⟩) = freshB 48 g seq d := by
  have h1 : (encL ⟨1, g, 0⟩).length = 24 := encL_length _
  have h3 : (encL ⟨3, seq, d⟩).length = 24 := encL_length _
  apply bl_inj
  unfold freshB
  rw [bl_append, bl_putT, bl_putT, bl_bs, bl_bs, bl_blank]
  generalize encL ⟨1, g, 0⟩ = a at *
  generalize encL ⟨3, seq, d⟩ = b at *
  have e1 : (List.replicate 48 (255 : UInt8)).take (24 * 1) = List.replicate 24 255 := rfl
  have e2 : (List.replicate 48 (255 : UInt8)).drop (24 * 1 + 24) = [] := rfl
  rw [e1, e2, List.append_nil, show 24 * 0 = 0 from rfl, List.take_zero, List.nil_append, List.drop_left' (by simp)]

set_option maxRecDepth 100000 in
set_option maxHeartbeats 4000000 in
theorem law10One (g seq d : Nat) (W : World) (hg : g < 18446744073709551616) (hs : seq < 18446744073709551616) (hd : d < 18446744073709551616) :
    Calls Try.prog 14 #[.int .u64 (g : Int), .int .u64 (seq : Int), .int .u64 (d : Int)] W fun e W' => e = .returned (.string (freshB 48 g seq d)) ∧ Below W.heap.size W W' := by
  have T1 := Lib.hid (fun (V : World) => (show Calls Try.prog 25 #[.agg #[.int .i64 1, .int .u64 (g : Int), .int .u64 0]] V fun e W' => e = .returned (.string (bs (encL ⟨1, g, 0⟩))) ∧ Below V.heap.size V W' from own07Encode ⟨1, g, 0⟩ V (rec_ok 1 ⟨by decide, by decide⟩ hg (by decide))))
  have T3 := Lib.hid (fun (V : World) => (show Calls Try.prog 25 #[.agg #[.int .i64 3, .int .u64 (seq : Int), .int .u64 (d : Int)]] V fun e W' => e = .returned (.string (bs (encL ⟨3, seq, d⟩))) ∧ Below V.heap.size V W' from own07Encode ⟨3, seq, d⟩ V (rec_ok 3 ⟨by decide, by decide⟩ hs hd)))
  have oo : ¬ 9223372036854775807 < (bs (encL ⟨1, g, 0⟩)).size + (bs (encL ⟨3, seq, d⟩)).size := by rw [bs_size, bs_size, encL_length, encL_length]; decide
  have HO := Lib.hid (one_fresh g seq d)
  generalize bs (encL ⟨1, g, 0⟩) = a at *
  generalize bs (encL ⟨3, seq, d⟩) = b at *
  rw [← HO.out]
  clear HO hg hs hd
  have hB : Below W.heap.size W W := Below.refl _ _
  go_enter Try.func14, Try.ntmps14
  go_wp2_with fail
  refine (T1.out _).mono ?_
  rintro e V1 ⟨rfl, hk⟩
  replace hB := below_seq hB hk
  clear hk
  go_wp2_with fail
  refine (T3.out _).mono ?_
  rintro e V2 ⟨rfl, hk⟩
  replace hB := below_seq hB hk
  clear hk
  go_wp2
  go_ret
  exact ⟨rfl, hB⟩

def pkA : ByteArray := freshB 48 4 9 1
def pkB : ByteArray := freshB 48 5 3 2
def pkZ : ByteArray := blankT 48
theorem pk_z : pkA.size = 48 ∧ pkB.size = 48 ∧ pkZ.size = 48 := ⟨by kernel_rfl, by kernel_rfl, by kernel_rfl⟩
theorem pk_new : newF 48 9 = ⟨pkZ, pkZ, 0, 0, 9⟩ := by kernel_rfl
theorem pk_0 : pickE ⟨pkZ, pkZ, 0, 0, 9⟩ = 10 ∧ pickS ⟨pkZ, pkZ, 0, 0, 9⟩ = ⟨0, 0, 0, 0⟩ := ⟨by kernel_rfl, by kernel_rfl⟩
theorem pk_1 : pickE ⟨pkA, pkZ, 0, 0, 9⟩ = 0 ∧ pickS ⟨pkA, pkZ, 0, 0, 9⟩ = ⟨0, 4, 9, 1⟩ := ⟨by kernel_rfl, by kernel_rfl⟩
theorem pk_2 : pickE ⟨pkA, pkB, 0, 0, 9⟩ = 0 ∧ pickS ⟨pkA, pkB, 0, 0, 9⟩ = ⟨1, 5, 3, 2⟩ ∧ evenF ⟨pkA, pkB, 0, 0, 9⟩ = true ∧ bankK ⟨pkA, pkB, 0, 0, 9⟩ = 1 := ⟨by kernel_rfl, by kernel_rfl, by kernel_rfl, by kernel_rfl⟩

set_option maxRecDepth 100000 in
set_option maxHeartbeats 4000000 in
theorem shown10 (W : World) : Calls Try.prog 8 #[] W fun e W' => e = .returned (.bool true) ∧ Below W.heap.size W W' := by
  have ok0 : Fl.ok ⟨pkZ, pkZ, 0, 0, 9⟩ := ⟨by show pkZ.size ≤ maxLen; rw [pk_z.2.2]; decide, by show pkZ.size ≤ maxLen; rw [pk_z.2.2]; decide, ⟨by show (-9223372036854775808 : Int) ≤ 0; decide, by show (0 : Int) ≤ 9223372036854775807; decide⟩, ⟨by show (-9223372036854775808 : Int) ≤ 0; decide, by show (0 : Int) ≤ 9223372036854775807; decide⟩, ⟨by show (-9223372036854775808 : Int) ≤ 9; decide, by show (9 : Int) ≤ 9223372036854775807; decide⟩⟩
  have ok1 : Fl.ok ⟨pkA, pkZ, 0, 0, 9⟩ := ⟨by show pkA.size ≤ maxLen; rw [pk_z.1]; decide, by show pkZ.size ≤ maxLen; rw [pk_z.2.2]; decide, ⟨by show (-9223372036854775808 : Int) ≤ 0; decide, by show (0 : Int) ≤ 9223372036854775807; decide⟩, ⟨by show (-9223372036854775808 : Int) ≤ 0; decide, by show (0 : Int) ≤ 9223372036854775807; decide⟩, ⟨by show (-9223372036854775808 : Int) ≤ 9; decide, by show (9 : Int) ≤ 9223372036854775807; decide⟩⟩
  have ok2 : Fl.ok ⟨pkA, pkB, 0, 0, 9⟩ := ⟨by show pkA.size ≤ maxLen; rw [pk_z.1]; decide, by show pkB.size ≤ maxLen; rw [pk_z.2.1]; decide, ⟨by show (-9223372036854775808 : Int) ≤ 0; decide, by show (0 : Int) ≤ 9223372036854775807; decide⟩, ⟨by show (-9223372036854775808 : Int) ≤ 0; decide, by show (0 : Int) ≤ 9223372036854775807; decide⟩, ⟨by show (-9223372036854775808 : Int) ≤ 9; decide, by show (9 : Int) ≤ 9223372036854775807; decide⟩⟩
  have TN := Lib.hid (fun (W : World) => (show Calls Try.prog 13 #[.int .i64 48, .int .i64 9] W fun e W' => e = .returned (.agg #[.string pkZ, .string pkZ, .int .i64 0, .int .i64 0, .int .i64 9]) ∧ Below W.heap.size W W' from by
    have h := flNew 48 9 W
    rw [pk_new] at h; exact h))
  have TR0 := Lib.hid (fun (W : World) => (show Calls Try.prog 12 #[.agg #[.string pkZ, .string pkZ, .int .i64 0, .int .i64 0, .int .i64 9]] W fun e W' => e = .returned (.tuple #[.agg #[.int .i64 0, .int .u64 0, .int .u64 0, .int .u64 0], .int .i64 10]) ∧ Below W.heap.size W W' from by
    have h := own10Read ⟨pkZ, pkZ, 0, 0, 9⟩ W ok0
    rw [pk_0.1, pk_0.2] at h; exact h))
  have TR1 := Lib.hid (fun (W : World) => (show Calls Try.prog 12 #[.agg #[.string pkA, .string pkZ, .int .i64 0, .int .i64 0, .int .i64 9]] W fun e W' => e = .returned (.tuple #[.agg #[.int .i64 0, .int .u64 4, .int .u64 9, .int .u64 1], .int .i64 0]) ∧ Below W.heap.size W W' from by
    have h := own10Read ⟨pkA, pkZ, 0, 0, 9⟩ W ok1
    rw [pk_1.1, pk_1.2] at h; exact h))
  have TR2 := Lib.hid (fun (W : World) => (show Calls Try.prog 12 #[.agg #[.string pkA, .string pkB, .int .i64 0, .int .i64 0, .int .i64 9]] W fun e W' => e = .returned (.tuple #[.agg #[.int .i64 1, .int .u64 5, .int .u64 3, .int .u64 2], .int .i64 0]) ∧ Below W.heap.size W W' from by
    have h := own10Read ⟨pkA, pkB, 0, 0, 9⟩ W ok2
    rw [pk_2.1, pk_2.2.1] at h; exact h))
  have TE := Lib.hid (fun (W : World) => (show Calls Try.prog 16 #[.agg #[.string pkA, .string pkB, .int .i64 0, .int .i64 0, .int .i64 9]] W fun e W' => e = .returned (.bool true) ∧ Below W.heap.size W W' from by
    have h := own10Even ⟨pkA, pkB, 0, 0, 9⟩ W ok2
    rw [pk_2.2.2.1] at h; exact h))
  have TK := Lib.hid (fun (W : World) => (show Calls Try.prog 9 #[.agg #[.string pkA, .string pkB, .int .i64 0, .int .i64 0, .int .i64 9]] W fun e W' => e = .returned (.int .i64 1) ∧ Below W.heap.size W W' from by
    have h := own10Bank ⟨pkA, pkB, 0, 0, 9⟩ W ok2
    rw [pk_2.2.2.2] at h; exact h))
  have TO0 := Lib.hid (fun (W : World) => (show Calls Try.prog 15 #[.int .i64 0] W fun e W' => e = .returned (.int .i64 1) ∧ Below W.heap.size W W' from by
    have h := own10Other 0 W
    exact h))
  have TO7 := Lib.hid (fun (W : World) => (show Calls Try.prog 15 #[.int .i64 7] W fun e W' => e = .returned (.int .i64 0) ∧ Below W.heap.size W W' from by
    have h := own10Other 7 W
    exact h))
  have TA := Lib.hid (fun (W : World) => (show Calls Try.prog 14 #[.int .u64 4, .int .u64 9, .int .u64 1] W fun e W' => e = .returned (.string pkA) ∧ Below W.heap.size W W' from by
    have h := law10One 4 9 1 W (by decide) (by decide) (by decide)
    exact h))
  have TB := Lib.hid (fun (W : World) => (show Calls Try.prog 14 #[.int .u64 5, .int .u64 3, .int .u64 2] W fun e W' => e = .returned (.string pkB) ∧ Below W.heap.size W W' from by
    have h := law10One 5 3 2 W (by decide) (by decide) (by decide)
    exact h))
  clear ok0 ok1 ok2
  generalize pkA = A at *
  generalize pkB = B at *
  generalize pkZ = Z at *
  have hB : Below W.heap.size W W := Below.refl _ _
  go_enter Try.func8, Try.ntmps8
  go_wp2_with fail
  refine (TN.out _).mono ?_
  rintro e V1 ⟨rfl, hk⟩
  replace hB := below_seq hB hk
  clear hk
  have xf := Box.new 25 V1 [.string Z, .string Z, .int .i64 0, .int .i64 0, .int .i64 9]
  have le_xf : W.heap.size ≤ V1.heap.size := hB.size
  replace hB := hB.alloc hB.size (.cells #[.string Z, .string Z, .int .i64 0, .int .i64 0, .int .i64 9] 25)
  have xf0 := xf.cell 0 rfl
  have xfz0 := xf.frozen 0
  have xf1 := xf.cell 1 rfl
  have xfz1 := xf.frozen 1
  have xf2 := xf.cell 2 rfl
  have xfz2 := xf.frozen 2
  have xf3 := xf.cell 3 rfl
  have xfz3 := xf.frozen 3
  have xf4 := xf.cell 4 rfl
  have xfz4 := xf.frozen 4
  go_wp2_with fail
  refine (TR0.out _).mono ?_
  rintro e V2 ⟨rfl, hk⟩
  clear xf0 xfz0 xf1 xfz1 xf2 xfz2 xf3 xfz3 xf4 xfz4
  replace hB := below_seq hB hk
  replace xf := xf.seq hk
  clear hk
  have x0 := Box.new 35 V2 [.int .i64 0, .int .u64 0, .int .u64 0, .int .u64 0]
  have ne_x0_xf : V2.heap.size ≠ V1.heap.size := Nat.ne_of_gt xf.lt
  have le_x0 : W.heap.size ≤ V2.heap.size := hB.size
  replace xf := xf.alloc (.cells #[.int .i64 0, .int .u64 0, .int .u64 0, .int .u64 0] 35)
  replace hB := hB.alloc hB.size (.cells #[.int .i64 0, .int .u64 0, .int .u64 0, .int .u64 0] 35)
  have xf0 := xf.cell 0 rfl
  have xfz0 := xf.frozen 0
  have xf1 := xf.cell 1 rfl
  have xfz1 := xf.frozen 1
  have xf2 := xf.cell 2 rfl
  have xfz2 := xf.frozen 2
  have xf3 := xf.cell 3 rfl
  have xfz3 := xf.frozen 3
  have xf4 := xf.cell 4 rfl
  have xfz4 := xf.frozen 4
  have x00 := x0.cell 0 rfl
  have x0z0 := x0.frozen 0
  have x01 := x0.cell 1 rfl
  have x0z1 := x0.frozen 1
  have x02 := x0.cell 2 rfl
  have x0z2 := x0.frozen 2
  have x03 := x0.cell 3 rfl
  have x0z3 := x0.frozen 3
  go_wp2_with fail
  refine (TA.out _).mono ?_
  rintro e V3 ⟨rfl, hk⟩
  clear xf0 xfz0 xf1 xfz1 xf2 xfz2 xf3 xfz3 xf4 xfz4 x00 x0z0 x01 x0z1 x02 x0z2 x03 x0z3
  replace hB := below_seq hB hk
  replace xf := xf.seq hk
  replace x0 := x0.seq hk
  clear hk
  have xf0 := xf.cell 0 rfl
  have xfz0 := xf.frozen 0
  have xf1 := xf.cell 1 rfl
  have xfz1 := xf.frozen 1
  have xf2 := xf.cell 2 rfl
  have xfz2 := xf.frozen 2
  have xf3 := xf.cell 3 rfl
  have xfz3 := xf.frozen 3
  have xf4 := xf.cell 4 rfl
  have xfz4 := xf.frozen 4
  have x00 := x0.cell 0 rfl
  have x0z0 := x0.frozen 0
  have x01 := x0.cell 1 rfl
  have x0z1 := x0.frozen 1
  have x02 := x0.cell 2 rfl
  have x0z2 := x0.frozen 2
  have x03 := x0.cell 3 rfl
  have x0z3 := x0.frozen 3
  go_wp2_with fail
  clear xf0 xfz0 xf1 xfz1 xf2 xfz2 xf3 xfz3 xf4 xfz4 x00 x0z0 x01 x0z1 x02 x0z2 x03 x0z3
  replace x0 : Box 35 (V3.setCell ⟨V1.heap.size, 0, none⟩ (.string A)) (V2.heap.size) [.int .i64 0, .int .u64 0, .int .u64 0, .int .u64 0] := (x0.other (Ne.symm ne_x0_xf) 0 (.string A))
  replace xf : Box 25 (V3.setCell ⟨V1.heap.size, 0, none⟩ (.string A)) (V1.heap.size) [.string A, .string Z, .int .i64 0, .int .i64 0, .int .i64 9] := (xf.set 0 (.string A))
  replace hB : Below W.heap.size W (V3.setCell ⟨V1.heap.size, 0, none⟩ (.string A)) := (hB.setCell le_xf _)
  generalize (V3.setCell ⟨V1.heap.size, 0, none⟩ (.string A)) = V4 at *
  have xf0 := xf.cell 0 rfl
  have xfz0 := xf.frozen 0
  have xf1 := xf.cell 1 rfl
  have xfz1 := xf.frozen 1
  have xf2 := xf.cell 2 rfl
  have xfz2 := xf.frozen 2
  have xf3 := xf.cell 3 rfl
  have xfz3 := xf.frozen 3
  have xf4 := xf.cell 4 rfl
  have xfz4 := xf.frozen 4
  have x00 := x0.cell 0 rfl
  have x0z0 := x0.frozen 0
  have x01 := x0.cell 1 rfl
  have x0z1 := x0.frozen 1
  have x02 := x0.cell 2 rfl
  have x0z2 := x0.frozen 2
  have x03 := x0.cell 3 rfl
  have x0z3 := x0.frozen 3
  refine (TR1.out _).mono ?_
  rintro e V5 ⟨rfl, hk⟩
  clear xf0 xfz0 xf1 xfz1 xf2 xfz2 xf3 xfz3 xf4 xfz4 x00 x0z0 x01 x0z1 x02 x0z2 x03 x0z3
  replace hB := below_seq hB hk
  replace xf := xf.seq hk
  replace x0 := x0.seq hk
  clear hk
  have x1 := Box.new 35 V5 [.int .i64 0, .int .u64 4, .int .u64 9, .int .u64 1]
  have ne_x1_xf : V5.heap.size ≠ V1.heap.size := Nat.ne_of_gt xf.lt
  have ne_x1_x0 : V5.heap.size ≠ V2.heap.size := Nat.ne_of_gt x0.lt
  have le_x1 : W.heap.size ≤ V5.heap.size := hB.size
  replace xf := xf.alloc (.cells #[.int .i64 0, .int .u64 4, .int .u64 9, .int .u64 1] 35)
  replace x0 := x0.alloc (.cells #[.int .i64 0, .int .u64 4, .int .u64 9, .int .u64 1] 35)
  replace hB := hB.alloc hB.size (.cells #[.int .i64 0, .int .u64 4, .int .u64 9, .int .u64 1] 35)
  have xf0 := xf.cell 0 rfl
  have xfz0 := xf.frozen 0
  have xf1 := xf.cell 1 rfl
  have xfz1 := xf.frozen 1
  have xf2 := xf.cell 2 rfl
  have xfz2 := xf.frozen 2
  have xf3 := xf.cell 3 rfl
  have xfz3 := xf.frozen 3
  have xf4 := xf.cell 4 rfl
  have xfz4 := xf.frozen 4
  have x00 := x0.cell 0 rfl
  have x0z0 := x0.frozen 0
  have x01 := x0.cell 1 rfl
  have x0z1 := x0.frozen 1
  have x02 := x0.cell 2 rfl
  have x0z2 := x0.frozen 2
  have x03 := x0.cell 3 rfl
  have x0z3 := x0.frozen 3
  have x10 := x1.cell 0 rfl
  have x1z0 := x1.frozen 0
  have x11 := x1.cell 1 rfl
  have x1z1 := x1.frozen 1
  have x12 := x1.cell 2 rfl
  have x1z2 := x1.frozen 2
  have x13 := x1.cell 3 rfl
  have x1z3 := x1.frozen 3
  go_wp2_with fail
  refine (TB.out _).mono ?_
  rintro e V6 ⟨rfl, hk⟩
  clear xf0 xfz0 xf1 xfz1 xf2 xfz2 xf3 xfz3 xf4 xfz4 x00 x0z0 x01 x0z1 x02 x0z2 x03 x0z3 x10 x1z0 x11 x1z1 x12 x1z2 x13 x1z3
  replace hB := below_seq hB hk
  replace xf := xf.seq hk
  replace x0 := x0.seq hk
  replace x1 := x1.seq hk
  clear hk
  have xf0 := xf.cell 0 rfl
  have xfz0 := xf.frozen 0
  have xf1 := xf.cell 1 rfl
  have xfz1 := xf.frozen 1
  have xf2 := xf.cell 2 rfl
  have xfz2 := xf.frozen 2
  have xf3 := xf.cell 3 rfl
  have xfz3 := xf.frozen 3
  have xf4 := xf.cell 4 rfl
  have xfz4 := xf.frozen 4
  have x00 := x0.cell 0 rfl
  have x0z0 := x0.frozen 0
  have x01 := x0.cell 1 rfl
  have x0z1 := x0.frozen 1
  have x02 := x0.cell 2 rfl
  have x0z2 := x0.frozen 2
  have x03 := x0.cell 3 rfl
  have x0z3 := x0.frozen 3
  have x10 := x1.cell 0 rfl
  have x1z0 := x1.frozen 0
  have x11 := x1.cell 1 rfl
  have x1z1 := x1.frozen 1
  have x12 := x1.cell 2 rfl
  have x1z2 := x1.frozen 2
  have x13 := x1.cell 3 rfl
  have x1z3 := x1.frozen 3
  go_wp2_with fail
  clear xf0 xfz0 xf1 xfz1 xf2 xfz2 xf3 xfz3 xf4 xfz4 x00 x0z0 x01 x0z1 x02 x0z2 x03 x0z3 x10 x1z0 x11 x1z1 x12 x1z2 x13 x1z3
  replace x0 : Box 35 (V6.setCell ⟨V1.heap.size, 1, none⟩ (.string B)) (V2.heap.size) [.int .i64 0, .int .u64 0, .int .u64 0, .int .u64 0] := (x0.other (Ne.symm ne_x0_xf) 1 (.string B))
  replace x1 : Box 35 (V6.setCell ⟨V1.heap.size, 1, none⟩ (.string B)) (V5.heap.size) [.int .i64 0, .int .u64 4, .int .u64 9, .int .u64 1] := (x1.other (Ne.symm ne_x1_xf) 1 (.string B))
  replace xf : Box 25 (V6.setCell ⟨V1.heap.size, 1, none⟩ (.string B)) (V1.heap.size) [.string A, .string B, .int .i64 0, .int .i64 0, .int .i64 9] := (xf.set 1 (.string B))
  replace hB : Below W.heap.size W (V6.setCell ⟨V1.heap.size, 1, none⟩ (.string B)) := (hB.setCell le_xf _)
  generalize (V6.setCell ⟨V1.heap.size, 1, none⟩ (.string B)) = V7 at *
  have xf0 := xf.cell 0 rfl
  have xfz0 := xf.frozen 0
  have xf1 := xf.cell 1 rfl
  have xfz1 := xf.frozen 1
  have xf2 := xf.cell 2 rfl
  have xfz2 := xf.frozen 2
  have xf3 := xf.cell 3 rfl
  have xfz3 := xf.frozen 3
  have xf4 := xf.cell 4 rfl
  have xfz4 := xf.frozen 4
  have x00 := x0.cell 0 rfl
  have x0z0 := x0.frozen 0
  have x01 := x0.cell 1 rfl
  have x0z1 := x0.frozen 1
  have x02 := x0.cell 2 rfl
  have x0z2 := x0.frozen 2
  have x03 := x0.cell 3 rfl
  have x0z3 := x0.frozen 3
  have x10 := x1.cell 0 rfl
  have x1z0 := x1.frozen 0
  have x11 := x1.cell 1 rfl
  have x1z1 := x1.frozen 1
  have x12 := x1.cell 2 rfl
  have x1z2 := x1.frozen 2
  have x13 := x1.cell 3 rfl
  have x1z3 := x1.frozen 3
  refine (TR2.out _).mono ?_
  rintro e V8 ⟨rfl, hk⟩
  clear xf0 xfz0 xf1 xfz1 xf2 xfz2 xf3 xfz3 xf4 xfz4 x00 x0z0 x01 x0z1 x02 x0z2 x03 x0z3 x10 x1z0 x11 x1z1 x12 x1z2 x13 x1z3
  replace hB := below_seq hB hk
  replace xf := xf.seq hk
  replace x0 := x0.seq hk
  replace x1 := x1.seq hk
  clear hk
  have x2 := Box.new 35 V8 [.int .i64 1, .int .u64 5, .int .u64 3, .int .u64 2]
  have ne_x2_xf : V8.heap.size ≠ V1.heap.size := Nat.ne_of_gt xf.lt
  have ne_x2_x0 : V8.heap.size ≠ V2.heap.size := Nat.ne_of_gt x0.lt
  have ne_x2_x1 : V8.heap.size ≠ V5.heap.size := Nat.ne_of_gt x1.lt
  have le_x2 : W.heap.size ≤ V8.heap.size := hB.size
  replace xf := xf.alloc (.cells #[.int .i64 1, .int .u64 5, .int .u64 3, .int .u64 2] 35)
  replace x0 := x0.alloc (.cells #[.int .i64 1, .int .u64 5, .int .u64 3, .int .u64 2] 35)
  replace x1 := x1.alloc (.cells #[.int .i64 1, .int .u64 5, .int .u64 3, .int .u64 2] 35)
  replace hB := hB.alloc hB.size (.cells #[.int .i64 1, .int .u64 5, .int .u64 3, .int .u64 2] 35)
  have xf0 := xf.cell 0 rfl
  have xfz0 := xf.frozen 0
  have xf1 := xf.cell 1 rfl
  have xfz1 := xf.frozen 1
  have xf2 := xf.cell 2 rfl
  have xfz2 := xf.frozen 2
  have xf3 := xf.cell 3 rfl
  have xfz3 := xf.frozen 3
  have xf4 := xf.cell 4 rfl
  have xfz4 := xf.frozen 4
  have x00 := x0.cell 0 rfl
  have x0z0 := x0.frozen 0
  have x01 := x0.cell 1 rfl
  have x0z1 := x0.frozen 1
  have x02 := x0.cell 2 rfl
  have x0z2 := x0.frozen 2
  have x03 := x0.cell 3 rfl
  have x0z3 := x0.frozen 3
  have x10 := x1.cell 0 rfl
  have x1z0 := x1.frozen 0
  have x11 := x1.cell 1 rfl
  have x1z1 := x1.frozen 1
  have x12 := x1.cell 2 rfl
  have x1z2 := x1.frozen 2
  have x13 := x1.cell 3 rfl
  have x1z3 := x1.frozen 3
  have x20 := x2.cell 0 rfl
  have x2z0 := x2.frozen 0
  have x21 := x2.cell 1 rfl
  have x2z1 := x2.frozen 1
  have x22 := x2.cell 2 rfl
  have x2z2 := x2.frozen 2
  have x23 := x2.cell 3 rfl
  have x2z3 := x2.frozen 3
  go_wp2_with fail
  refine (TO0.out _).mono ?_
  rintro e V9 ⟨rfl, hk⟩
  clear xf0 xfz0 xf1 xfz1 xf2 xfz2 xf3 xfz3 xf4 xfz4 x00 x0z0 x01 x0z1 x02 x0z2 x03 x0z3 x10 x1z0 x11 x1z1 x12 x1z2 x13 x1z3 x20 x2z0 x21 x2z1 x22 x2z2 x23 x2z3
  replace hB := below_seq hB hk
  replace xf := xf.seq hk
  replace x0 := x0.seq hk
  replace x1 := x1.seq hk
  replace x2 := x2.seq hk
  clear hk
  have xf0 := xf.cell 0 rfl
  have xfz0 := xf.frozen 0
  have xf1 := xf.cell 1 rfl
  have xfz1 := xf.frozen 1
  have xf2 := xf.cell 2 rfl
  have xfz2 := xf.frozen 2
  have xf3 := xf.cell 3 rfl
  have xfz3 := xf.frozen 3
  have xf4 := xf.cell 4 rfl
  have xfz4 := xf.frozen 4
  have x00 := x0.cell 0 rfl
  have x0z0 := x0.frozen 0
  have x01 := x0.cell 1 rfl
  have x0z1 := x0.frozen 1
  have x02 := x0.cell 2 rfl
  have x0z2 := x0.frozen 2
  have x03 := x0.cell 3 rfl
  have x0z3 := x0.frozen 3
  have x10 := x1.cell 0 rfl
  have x1z0 := x1.frozen 0
  have x11 := x1.cell 1 rfl
  have x1z1 := x1.frozen 1
  have x12 := x1.cell 2 rfl
  have x1z2 := x1.frozen 2
  have x13 := x1.cell 3 rfl
  have x1z3 := x1.frozen 3
  have x20 := x2.cell 0 rfl
  have x2z0 := x2.frozen 0
  have x21 := x2.cell 1 rfl
  have x2z1 := x2.frozen 1
  have x22 := x2.cell 2 rfl
  have x2z2 := x2.frozen 2
  have x23 := x2.cell 3 rfl
  have x2z3 := x2.frozen 3
  go_wp2_with fail
  refine (TO7.out _).mono ?_
  rintro e V10 ⟨rfl, hk⟩
  clear xf0 xfz0 xf1 xfz1 xf2 xfz2 xf3 xfz3 xf4 xfz4 x00 x0z0 x01 x0z1 x02 x0z2 x03 x0z3 x10 x1z0 x11 x1z1 x12 x1z2 x13 x1z3 x20 x2z0 x21 x2z1 x22 x2z2 x23 x2z3
  replace hB := below_seq hB hk
  replace xf := xf.seq hk
  replace x0 := x0.seq hk
  replace x1 := x1.seq hk
  replace x2 := x2.seq hk
  clear hk
  have xf0 := xf.cell 0 rfl
  have xfz0 := xf.frozen 0
  have xf1 := xf.cell 1 rfl
  have xfz1 := xf.frozen 1
  have xf2 := xf.cell 2 rfl
  have xfz2 := xf.frozen 2
  have xf3 := xf.cell 3 rfl
  have xfz3 := xf.frozen 3
  have xf4 := xf.cell 4 rfl
  have xfz4 := xf.frozen 4
  have x00 := x0.cell 0 rfl
  have x0z0 := x0.frozen 0
  have x01 := x0.cell 1 rfl
  have x0z1 := x0.frozen 1
  have x02 := x0.cell 2 rfl
  have x0z2 := x0.frozen 2
  have x03 := x0.cell 3 rfl
  have x0z3 := x0.frozen 3
  have x10 := x1.cell 0 rfl
  have x1z0 := x1.frozen 0
  have x11 := x1.cell 1 rfl
  have x1z1 := x1.frozen 1
  have x12 := x1.cell 2 rfl
  have x1z2 := x1.frozen 2
  have x13 := x1.cell 3 rfl
  have x1z3 := x1.frozen 3
  have x20 := x2.cell 0 rfl
  have x2z0 := x2.frozen 0
  have x21 := x2.cell 1 rfl
  have x2z1 := x2.frozen 1
  have x22 := x2.cell 2 rfl
  have x2z2 := x2.frozen 2
  have x23 := x2.cell 3 rfl
  have x2z3 := x2.frozen 3
  go_wp2_with fail
  refine (TE.out _).mono ?_
  rintro e V11 ⟨rfl, hk⟩
  clear xf0 xfz0 xf1 xfz1 xf2 xfz2 xf3 xfz3 xf4 xfz4 x00 x0z0 x01 x0z1 x02 x0z2 x03 x0z3 x10 x1z0 x11 x1z1 x12 x1z2 x13 x1z3 x20 x2z0 x21 x2z1 x22 x2z2 x23 x2z3
  replace hB := below_seq hB hk
  replace xf := xf.seq hk
  replace x0 := x0.seq hk
  replace x1 := x1.seq hk
  replace x2 := x2.seq hk
  clear hk
  have xf0 := xf.cell 0 rfl
  have xfz0 := xf.frozen 0
  have xf1 := xf.cell 1 rfl
  have xfz1 := xf.frozen 1
  have xf2 := xf.cell 2 rfl
  have xfz2 := xf.frozen 2
  have xf3 := xf.cell 3 rfl
  have xfz3 := xf.frozen 3
  have xf4 := xf.cell 4 rfl
  have xfz4 := xf.frozen 4
  have x00 := x0.cell 0 rfl
  have x0z0 := x0.frozen 0
  have x01 := x0.cell 1 rfl
  have x0z1 := x0.frozen 1
  have x02 := x0.cell 2 rfl
  have x0z2 := x0.frozen 2
  have x03 := x0.cell 3 rfl
  have x0z3 := x0.frozen 3
  have x10 := x1.cell 0 rfl
  have x1z0 := x1.frozen 0
  have x11 := x1.cell 1 rfl
  have x1z1 := x1.frozen 1
  have x12 := x1.cell 2 rfl
  have x1z2 := x1.frozen 2
  have x13 := x1.cell 3 rfl
  have x1z3 := x1.frozen 3
  have x20 := x2.cell 0 rfl
  have x2z0 := x2.frozen 0
  have x21 := x2.cell 1 rfl
  have x2z1 := x2.frozen 1
  have x22 := x2.cell 2 rfl
  have x2z2 := x2.frozen 2
  have x23 := x2.cell 3 rfl
  have x2z3 := x2.frozen 3
  go_wp2_with fail
  refine (TK.out _).mono ?_
  rintro e V12 ⟨rfl, hk⟩
  clear xf0 xfz0 xf1 xfz1 xf2 xfz2 xf3 xfz3 xf4 xfz4 x00 x0z0 x01 x0z1 x02 x0z2 x03 x0z3 x10 x1z0 x11 x1z1 x12 x1z2 x13 x1z3 x20 x2z0 x21 x2z1 x22 x2z2 x23 x2z3
  replace hB := below_seq hB hk
  replace xf := xf.seq hk
  replace x0 := x0.seq hk
  replace x1 := x1.seq hk
  replace x2 := x2.seq hk
  clear hk
  have xf0 := xf.cell 0 rfl
  have xfz0 := xf.frozen 0
  have xf1 := xf.cell 1 rfl
  have xfz1 := xf.frozen 1
  have xf2 := xf.cell 2 rfl
  have xfz2 := xf.frozen 2
  have xf3 := xf.cell 3 rfl
  have xfz3 := xf.frozen 3
  have xf4 := xf.cell 4 rfl
  have xfz4 := xf.frozen 4
  have x00 := x0.cell 0 rfl
  have x0z0 := x0.frozen 0
  have x01 := x0.cell 1 rfl
  have x0z1 := x0.frozen 1
  have x02 := x0.cell 2 rfl
  have x0z2 := x0.frozen 2
  have x03 := x0.cell 3 rfl
  have x0z3 := x0.frozen 3
  have x10 := x1.cell 0 rfl
  have x1z0 := x1.frozen 0
  have x11 := x1.cell 1 rfl
  have x1z1 := x1.frozen 1
  have x12 := x1.cell 2 rfl
  have x1z2 := x1.frozen 2
  have x13 := x1.cell 3 rfl
  have x1z3 := x1.frozen 3
  have x20 := x2.cell 0 rfl
  have x2z0 := x2.frozen 0
  have x21 := x2.cell 1 rfl
  have x2z1 := x2.frozen 1
  have x22 := x2.cell 2 rfl
  have x2z2 := x2.frozen 2
  have x23 := x2.cell 3 rfl
  have x2z3 := x2.frozen 3
  go_wp2
  go_ret
  exact ⟨rfl, hB⟩

end Go.Proofs.Ytejhbamlnkhfcaa

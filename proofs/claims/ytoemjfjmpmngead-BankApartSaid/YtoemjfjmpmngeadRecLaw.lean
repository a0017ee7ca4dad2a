/- The laws' own helpers of layer 7: contracts only. -/
import Derived.Test.YtoemjfjmpmngeadRows
import Derived.Test.YtoemjfjmpmngeadLaid
import Derived.Test.YtoemjfjmpmngeadRecOwn
import Derived.Deep.RegionHeld3
import Derived.WalkLawsBesides
import Derived.WalkSpells
import Derived.IntWalk
import Derived.OpenShut
import Derived.ChangeMaps5
import Derived.Carry
import Derived.Test.YtoemjfjmpmngeadInts
import Derived.Test.YtoemjfjmpmngeadRecPlain
import Derived.Test.YtoemjfjmpmngeadBox
import Derived.WalkKit
import Derived.ProofKit
import Derived.Lib.Hide
namespace Go.Proofs.Ytoemjfjmpmngead
open Go.RowKit
set_option linter.unusedVariables false
set_option linter.unusedSimpArgs false

open Go.ChangeShapes Go.WideShapes Go.ChangeAt Go.ChangeMaps
theorem Try.cellsRec : Try.prog.cellsOf 24 = 3 := by kernel_rfl

set_option maxRecDepth 100000 in
theorem open_rec {H : Type} {enc : TypeId × Value → H} {W : World} {base : Nat} {v : Value} {d : DataW H} {p : List MemPlace}
    (hval : Value.okWide Try.prog W .any base 24 v) (h : DataW.Trod enc Try.prog W 0 (fun _ => true) true 24 v d p) :
    ∃ r : Rec, v = .agg #[.int .i64 r.kind, .int .u64 (r.seq : Int), .int .u64 (r.data : Int)] ∧ r.ok := by
  obtain ⟨cs, rfl, hsz⟩ := okWide_struct Try.underlying24 hval
  obtain ⟨l⟩ := cs
  match l, hsz.trans Try.cellsRec with
  | [c0, c1, c2], _ =>
    obtain ⟨fuel, hf⟩ := h
    obtain ⟨xs, n, _, hx, _, hlen, hg⟩ := DataW.trod_struct Try.underlying24 hf
    match xs, hlen with
    | [y0, y1, y2], _ =>
      have g0 : DataW.trod enc Try.prog W 0 (fun _ => true) true n 3 [c0] = some y0 := by have := hg 0 _ rfl; simpa [Value.cells, Try.cellsI] using this
      have g1 : DataW.trod enc Try.prog W 0 (fun _ => true) true n 22 [c1] = some y1 := by have := hg 1 _ rfl; simpa [Value.cells, Try.cellsU64] using this
      have g2 : DataW.trod enc Try.prog W 0 (fun _ => true) true n 22 [c2] = some y2 := by have := hg 2 _ rfl; simpa [Value.cells, Try.cellsU64] using this
      obtain ⟨n0, e0, _, w0⟩ := DataW.trod_int Try.underlying3 g0
      obtain ⟨n1, e1, _, w1⟩ := DataW.trod_int Try.underlying22 g1
      obtain ⟨n2, e2, _, w2⟩ := DataW.trod_int Try.underlying22 g2
      cases e0; cases e1; cases e2
      obtain ⟨b1, rfl⟩ := int_u64 w1
      obtain ⟨b2, rfl⟩ := int_u64 w2
      exact ⟨⟨n0, b1.toNat, b2.toNat⟩, rfl, ⟨int_i64 w0, b1.isLt, b2.isLt⟩⟩

theorem beqT {a b : ByteArray} (h : a = b) : (a.toList == b.toList) = true := by rw [h]; exact beq_self_eq_true _
theorem beqF {a b : ByteArray} (h : a ≠ b) : (a.toList == b.toList) = false := by
  rw [beq_eq_false_iff_ne]; intro k; rw [ByteArray.toList_eq, ByteArray.toList_eq] at k; exact h (bl_inj k)
def rec7 : Rec := ⟨2, 7, 9⟩
theorem rec7_ok : rec7.ok := ⟨by decide, by decide, by decide⟩
theorem rec7_enc : bs (encL rec7) = ⟨#[165, 2, 0, 0, 0, 0, 0, 0, 0, 7, 0, 0, 0, 0, 0, 0, 0, 9, 177, 181, 77, 185, 90, 60]⟩ := by kernel_rfl
theorem rec7_body : bs (bodyL rec7) = ⟨#[165, 2, 0, 0, 0, 0, 0, 0, 0, 7, 0, 0, 0, 0, 0, 0, 0, 9, 177, 181, 77, 185]⟩ := by kernel_rfl
theorem rec7_dec : decE [165, 2, 0, 0, 0, 0, 0, 0, 0, 7, 0, 0, 0, 0, 0, 0, 0, 9, 177, 181, 77, 185, 90, 60] = 0 ∧ decR [165, 2, 0, 0, 0, 0, 0, 0, 0, 7, 0, 0, 0, 0, 0, 0, 0, 9, 177, 181, 77, 185, 90, 60] = rec7 := ⟨by kernel_rfl, by kernel_rfl⟩
theorem rec7_cut : decE [165, 2, 0, 0, 0, 0, 0, 0, 0, 7, 0, 0, 0, 0, 0, 0, 0, 9, 177, 181, 77, 185, 255, 255] = 9 ∧ decR [165, 2, 0, 0, 0, 0, 0, 0, 0, 7, 0, 0, 0, 0, 0, 0, 0, 9, 177, 181, 77, 185, 255, 255] = ⟨0, 0, 0⟩ := ⟨by kernel_rfl, by kernel_rfl⟩
theorem rec7_blank : decE [255, 255, 255, 255, 255, 255, 255, 255, 255, 255, 255, 255, 255, 255, 255, 255, 255, 255, 255, 255, 255, 255, 255, 255] = 5 ∧ decR [255, 255, 255, 255, 255, 255, 255, 255, 255, 255, 255, 255, 255, 255, 255, 255, 255, 255, 255, 255, 255, 255, 255, 255] = ⟨0, 0, 0⟩ := ⟨by kernel_rfl, by kernel_rfl⟩

set_option maxRecDepth 100000 in
set_option maxHeartbeats 4000000 in
theorem shown07 (W : World) : Calls Try.prog 13 #[] W fun e W' => e = .returned (.bool true) ∧ Below W.heap.size W W' := by
  have T1 := Lib.hid (fun (W : World) => (show Calls Try.prog 14 #[.agg #[.int .i64 2, .int .u64 7, .int .u64 9]] W fun e W' => e = .returned (.string ⟨#[165, 2, 0, 0, 0, 0, 0, 0, 0, 7, 0, 0, 0, 0, 0, 0, 0, 9, 177, 181, 77, 185, 90, 60]⟩) ∧ Below W.heap.size W W' from by
    have h := own07Encode rec7 W rec7_ok
    rw [rec7_enc] at h; exact h))
  have T3 := Lib.hid (fun (W : World) => (show Calls Try.prog 15 #[.agg #[.int .i64 2, .int .u64 7, .int .u64 9]] W fun e W' => e = .returned (.string ⟨#[165, 2, 0, 0, 0, 0, 0, 0, 0, 7, 0, 0, 0, 0, 0, 0, 0, 9, 177, 181, 77, 185]⟩) ∧ Below W.heap.size W W' from by
    have h := own07Body rec7 W rec7_ok
    rw [rec7_body] at h; exact h))
  have T2 := Lib.hid (fun (W : World) => (show Calls Try.prog 32 #[.string ⟨#[165, 2, 0, 0, 0, 0, 0, 0, 0, 7, 0, 0, 0, 0, 0, 0, 0, 9, 177, 181, 77, 185, 90, 60]⟩] W fun e W' => e = .returned (.tuple #[.agg #[.int .i64 2, .int .u64 7, .int .u64 9], .int .i64 0]) ∧ Below W.heap.size W W' from by
    have h := own07Decode ⟨#[165, 2, 0, 0, 0, 0, 0, 0, 0, 7, 0, 0, 0, 0, 0, 0, 0, 9, 177, 181, 77, 185, 90, 60]⟩ W (by decide)
    rw [show bl ⟨#[165, 2, 0, 0, 0, 0, 0, 0, 0, 7, 0, 0, 0, 0, 0, 0, 0, 9, 177, 181, 77, 185, 90, 60]⟩ = [165, 2, 0, 0, 0, 0, 0, 0, 0, 7, 0, 0, 0, 0, 0, 0, 0, 9, 177, 181, 77, 185, 90, 60] from rfl, rec7_dec.1, rec7_dec.2] at h; exact h))
  have T4 := Lib.hid (fun (W : World) => (show Calls Try.prog 32 #[.string ⟨#[165, 2, 0, 0, 0, 0, 0, 0, 0, 7, 0, 0, 0, 0, 0, 0, 0, 9, 177, 181, 77, 185, 255, 255]⟩] W fun e W' => e = .returned (.tuple #[.agg #[.int .i64 0, .int .u64 0, .int .u64 0], .int .i64 9]) ∧ Below W.heap.size W W' from by
    have h := own07Decode ⟨#[165, 2, 0, 0, 0, 0, 0, 0, 0, 7, 0, 0, 0, 0, 0, 0, 0, 9, 177, 181, 77, 185, 255, 255]⟩ W (by decide)
    rw [show bl ⟨#[165, 2, 0, 0, 0, 0, 0, 0, 0, 7, 0, 0, 0, 0, 0, 0, 0, 9, 177, 181, 77, 185, 255, 255]⟩ = [165, 2, 0, 0, 0, 0, 0, 0, 0, 7, 0, 0, 0, 0, 0, 0, 0, 9, 177, 181, 77, 185, 255, 255] from rfl, rec7_cut.1, rec7_cut.2] at h; exact h))
  have T5 := Lib.hid (fun (W : World) => (show Calls Try.prog 32 #[.string ⟨#[255, 255, 255, 255, 255, 255, 255, 255, 255, 255, 255, 255, 255, 255, 255, 255, 255, 255, 255, 255, 255, 255, 255, 255]⟩] W fun e W' => e = .returned (.tuple #[.agg #[.int .i64 0, .int .u64 0, .int .u64 0], .int .i64 5]) ∧ Below W.heap.size W W' from by
    have h := own07Decode ⟨#[255, 255, 255, 255, 255, 255, 255, 255, 255, 255, 255, 255, 255, 255, 255, 255, 255, 255, 255, 255, 255, 255, 255, 255]⟩ W (by decide)
    rw [show bl ⟨#[255, 255, 255, 255, 255, 255, 255, 255, 255, 255, 255, 255, 255, 255, 255, 255, 255, 255, 255, 255, 255, 255, 255, 255]⟩ = [255, 255, 255, 255, 255, 255, 255, 255, 255, 255, 255, 255, 255, 255, 255, 255, 255, 255, 255, 255, 255, 255, 255, 255] from rfl, rec7_blank.1, rec7_blank.2] at h; exact h))
  have T7 := Lib.hid (fun (W : World) => (show Calls Try.prog 34 #[.string ⟨#[165, 2, 0, 0, 0, 0, 0, 0, 0, 7, 0, 0, 0, 0, 0, 0, 0, 9, 177, 181, 77, 185, 90, 60]⟩] W fun e W' => e = .returned (.bool true) ∧ Below W.heap.size W W' from by
    have h := own07Good ⟨#[165, 2, 0, 0, 0, 0, 0, 0, 0, 7, 0, 0, 0, 0, 0, 0, 0, 9, 177, 181, 77, 185, 90, 60]⟩ W (by decide)
    rw [show bl ⟨#[165, 2, 0, 0, 0, 0, 0, 0, 0, 7, 0, 0, 0, 0, 0, 0, 0, 9, 177, 181, 77, 185, 90, 60]⟩ = [165, 2, 0, 0, 0, 0, 0, 0, 0, 7, 0, 0, 0, 0, 0, 0, 0, 9, 177, 181, 77, 185, 90, 60] from rfl, rec7_dec.1] at h; exact h))
  have h0 : 0 < (⟨#[165, 2, 0, 0, 0, 0, 0, 0, 0, 7, 0, 0, 0, 0, 0, 0, 0, 9, 177, 181, 77, 185, 90, 60]⟩ : ByteArray).size := by decide
  have h9 : 9 < (⟨#[165, 2, 0, 0, 0, 0, 0, 0, 0, 7, 0, 0, 0, 0, 0, 0, 0, 9, 177, 181, 77, 185, 90, 60]⟩ : ByteArray).size := by decide
  have h17 : 17 < (⟨#[165, 2, 0, 0, 0, 0, 0, 0, 0, 7, 0, 0, 0, 0, 0, 0, 0, 9, 177, 181, 77, 185, 90, 60]⟩ : ByteArray).size := by decide
  have z1 : (((⟨#[165, 2, 0, 0, 0, 0, 0, 0, 0, 7, 0, 0, 0, 0, 0, 0, 0, 9, 177, 181, 77, 185, 90, 60]⟩ : ByteArray).size : Int) == 24) = true := by decide
  have z2 : (((⟨#[165, 2, 0, 0, 0, 0, 0, 0, 0, 7, 0, 0, 0, 0, 0, 0, 0, 9, 177, 181, 77, 185, 90, 60]⟩ : ByteArray)[0].toNat : Int) == 165) = true := rfl
  have z3 : (((⟨#[165, 2, 0, 0, 0, 0, 0, 0, 0, 7, 0, 0, 0, 0, 0, 0, 0, 9, 177, 181, 77, 185, 90, 60]⟩ : ByteArray)[9].toNat : Int) == 7) = true := rfl
  have z4 : (((⟨#[165, 2, 0, 0, 0, 0, 0, 0, 0, 7, 0, 0, 0, 0, 0, 0, 0, 9, 177, 181, 77, 185, 90, 60]⟩ : ByteArray)[17].toNat : Int) == 9) = true := rfl
  have z5 : (((⟨#[165, 2, 0, 0, 0, 0, 0, 0, 0, 7, 0, 0, 0, 0, 0, 0, 0, 9, 177, 181, 77, 185, 90, 60]⟩ : ByteArray).extract 22 (⟨#[165, 2, 0, 0, 0, 0, 0, 0, 0, 7, 0, 0, 0, 0, 0, 0, 0, 9, 177, 181, 77, 185, 90, 60]⟩ : ByteArray).size).toList == (bs markL).toList) = true := by kernel_rfl
  have z6 : (0 : Int) < ((⟨#[165, 2, 0, 0, 0, 0, 0, 0, 0, 7, 0, 0, 0, 0, 0, 0, 0, 9, 177, 181, 77, 185, 90, 60]⟩ : ByteArray).size : Int) := by decide
  have z7 : (9 : Int) < ((⟨#[165, 2, 0, 0, 0, 0, 0, 0, 0, 7, 0, 0, 0, 0, 0, 0, 0, 9, 177, 181, 77, 185, 90, 60]⟩ : ByteArray).size : Int) := by decide
  have z8 : (17 : Int) < ((⟨#[165, 2, 0, 0, 0, 0, 0, 0, 0, 7, 0, 0, 0, 0, 0, 0, 0, 9, 177, 181, 77, 185, 90, 60]⟩ : ByteArray).size : Int) := by decide
  have z9 : (22 : Int) ≤ ((⟨#[165, 2, 0, 0, 0, 0, 0, 0, 0, 7, 0, 0, 0, 0, 0, 0, 0, 9, 177, 181, 77, 185, 90, 60]⟩ : ByteArray).size : Int) := by decide
  have z10 : 22 ≤ (⟨#[165, 2, 0, 0, 0, 0, 0, 0, 0, 7, 0, 0, 0, 0, 0, 0, 0, 9, 177, 181, 77, 185, 90, 60]⟩ : ByteArray).size := by decide
  generalize (⟨#[165, 2, 0, 0, 0, 0, 0, 0, 0, 7, 0, 0, 0, 0, 0, 0, 0, 9, 177, 181, 77, 185, 90, 60]⟩ : ByteArray) = E at *
  have hB : Below W.heap.size W (W.alloc (.cells #[.int .i64 2, .int .u64 7, .int .u64 9] 24)) := ((Below.refl _ _).alloc (Nat.le_refl _) _)
  have xr := (Box.new 24 W [.int .i64 2, .int .u64 7, .int .u64 9])
  go_enter Try.func13, Try.ntmps13
  go_wp2_with fail
  refine (T1.out _).mono ?_
  rintro e V1 ⟨rfl, hk⟩
  replace hB := below_seq hB hk
  replace xr := xr.seq hk
  clear hk
  have xr0 := xr.cell 0 rfl
  have xrz0 := xr.frozen 0
  have xr1 := xr.cell 1 rfl
  have xrz1 := xr.frozen 1
  have xr2 := xr.cell 2 rfl
  have xrz2 := xr.frozen 2
  go_wp2_with fail
  refine (T2.out _).mono ?_
  rintro e V2 ⟨rfl, hk⟩
  clear xr0 xrz0 xr1 xrz1 xr2 xrz2
  replace hB := below_seq hB hk
  replace xr := xr.seq hk
  clear hk
  have xd := Box.new 24 V2 [.int .i64 2, .int .u64 7, .int .u64 9]
  have ne_xd_xr : V2.heap.size ≠ W.heap.size := Nat.ne_of_gt xr.lt
  have le_xd : W.heap.size ≤ V2.heap.size := hB.size
  replace xr := xr.alloc (.cells #[.int .i64 2, .int .u64 7, .int .u64 9] 24)
  replace hB := hB.alloc hB.size (.cells #[.int .i64 2, .int .u64 7, .int .u64 9] 24)
  have xr0 := xr.cell 0 rfl
  have xrz0 := xr.frozen 0
  have xr1 := xr.cell 1 rfl
  have xrz1 := xr.frozen 1
  have xr2 := xr.cell 2 rfl
  have xrz2 := xr.frozen 2
  have xd0 := xd.cell 0 rfl
  have xdz0 := xd.frozen 0
  have xd1 := xd.cell 1 rfl
  have xdz1 := xd.frozen 1
  have xd2 := xd.cell 2 rfl
  have xdz2 := xd.frozen 2
  go_wp2_with fail
  refine (T3.out _).mono ?_
  rintro e V3 ⟨rfl, hk⟩
  clear xr0 xrz0 xr1 xrz1 xr2 xrz2 xd0 xdz0 xd1 xdz1 xd2 xdz2
  replace hB := below_seq hB hk
  replace xr := xr.seq hk
  replace xd := xd.seq hk
  clear hk
  have xr0 := xr.cell 0 rfl
  have xrz0 := xr.frozen 0
  have xr1 := xr.cell 1 rfl
  have xrz1 := xr.frozen 1
  have xr2 := xr.cell 2 rfl
  have xrz2 := xr.frozen 2
  have xd0 := xd.cell 0 rfl
  have xdz0 := xd.frozen 0
  have xd1 := xd.cell 1 rfl
  have xdz1 := xd.frozen 1
  have xd2 := xd.cell 2 rfl
  have xdz2 := xd.frozen 2
  go_wp2_with fail
  refine (T4.out _).mono ?_
  rintro e V4 ⟨rfl, hk⟩
  clear xr0 xrz0 xr1 xrz1 xr2 xrz2 xd0 xdz0 xd1 xdz1 xd2 xdz2
  replace hB := below_seq hB hk
  replace xr := xr.seq hk
  replace xd := xd.seq hk
  clear hk
  have xe := Box.new 24 V4 [.int .i64 0, .int .u64 0, .int .u64 0]
  have ne_xe_xr : V4.heap.size ≠ W.heap.size := Nat.ne_of_gt xr.lt
  have ne_xe_xd : V4.heap.size ≠ V2.heap.size := Nat.ne_of_gt xd.lt
  have le_xe : W.heap.size ≤ V4.heap.size := hB.size
  replace xr := xr.alloc (.cells #[.int .i64 0, .int .u64 0, .int .u64 0] 24)
  replace xd := xd.alloc (.cells #[.int .i64 0, .int .u64 0, .int .u64 0] 24)
  replace hB := hB.alloc hB.size (.cells #[.int .i64 0, .int .u64 0, .int .u64 0] 24)
  have xr0 := xr.cell 0 rfl
  have xrz0 := xr.frozen 0
  have xr1 := xr.cell 1 rfl
  have xrz1 := xr.frozen 1
  have xr2 := xr.cell 2 rfl
  have xrz2 := xr.frozen 2
  have xd0 := xd.cell 0 rfl
  have xdz0 := xd.frozen 0
  have xd1 := xd.cell 1 rfl
  have xdz1 := xd.frozen 1
  have xd2 := xd.cell 2 rfl
  have xdz2 := xd.frozen 2
  have xe0 := xe.cell 0 rfl
  have xez0 := xe.frozen 0
  have xe1 := xe.cell 1 rfl
  have xez1 := xe.frozen 1
  have xe2 := xe.cell 2 rfl
  have xez2 := xe.frozen 2
  go_wp2_with fail
  refine (T5.out _).mono ?_
  rintro e V5 ⟨rfl, hk⟩
  clear xr0 xrz0 xr1 xrz1 xr2 xrz2 xd0 xdz0 xd1 xdz1 xd2 xdz2 xe0 xez0 xe1 xez1 xe2 xez2
  replace hB := below_seq hB hk
  replace xr := xr.seq hk
  replace xd := xd.seq hk
  replace xe := xe.seq hk
  clear hk
  have xg := Box.new 24 V5 [.int .i64 0, .int .u64 0, .int .u64 0]
  have ne_xg_xr : V5.heap.size ≠ W.heap.size := Nat.ne_of_gt xr.lt
  have ne_xg_xd : V5.heap.size ≠ V2.heap.size := Nat.ne_of_gt xd.lt
  have ne_xg_xe : V5.heap.size ≠ V4.heap.size := Nat.ne_of_gt xe.lt
  have le_xg : W.heap.size ≤ V5.heap.size := hB.size
  replace xr := xr.alloc (.cells #[.int .i64 0, .int .u64 0, .int .u64 0] 24)
  replace xd := xd.alloc (.cells #[.int .i64 0, .int .u64 0, .int .u64 0] 24)
  replace xe := xe.alloc (.cells #[.int .i64 0, .int .u64 0, .int .u64 0] 24)
  replace hB := hB.alloc hB.size (.cells #[.int .i64 0, .int .u64 0, .int .u64 0] 24)
  have xr0 := xr.cell 0 rfl
  have xrz0 := xr.frozen 0
  have xr1 := xr.cell 1 rfl
  have xrz1 := xr.frozen 1
  have xr2 := xr.cell 2 rfl
  have xrz2 := xr.frozen 2
  have xd0 := xd.cell 0 rfl
  have xdz0 := xd.frozen 0
  have xd1 := xd.cell 1 rfl
  have xdz1 := xd.frozen 1
  have xd2 := xd.cell 2 rfl
  have xdz2 := xd.frozen 2
  have xe0 := xe.cell 0 rfl
  have xez0 := xe.frozen 0
  have xe1 := xe.cell 1 rfl
  have xez1 := xe.frozen 1
  have xe2 := xe.cell 2 rfl
  have xez2 := xe.frozen 2
  have xg0 := xg.cell 0 rfl
  have xgz0 := xg.frozen 0
  have xg1 := xg.cell 1 rfl
  have xgz1 := xg.frozen 1
  have xg2 := xg.cell 2 rfl
  have xgz2 := xg.frozen 2
  go_wp2_with fail
  generalize (V5.alloc (.cells #[.int .i64 0, .int .u64 0, .int .u64 0] 24)) = V6 at *
  clear xr0 xrz0 xr1 xrz1 xr2 xrz2 xd0 xdz0 xd1 xdz1 xd2 xdz2 xe0 xez0 xe1 xez1 xe2 xez2 xg0 xgz0 xg1 xgz1 xg2 xgz2
  replace hB := hB.drew
  replace xr := xr.drew
  replace xd := xd.drew
  replace xe := xe.drew
  replace xg := xg.drew
  refine wp_region_held_drew (S := fun w' => w'.cell? ⟨W.heap.size, 0, none⟩ = some (.int .i64 2) ∧ w'.cell? ⟨W.heap.size, 1, none⟩ = some (.int .u64 7) ∧ w'.cell? ⟨W.heap.size, 2, none⟩ = some (.int .u64 9) ∧ w'.cell? ⟨V2.heap.size, 0, none⟩ = some (.int .i64 2) ∧ w'.cell? ⟨V2.heap.size, 1, none⟩ = some (.int .u64 7) ∧ w'.cell? ⟨V2.heap.size, 2, none⟩ = some (.int .u64 9)) (by kernel_rfl) ?_ (fun hHeld => ?_)
  · exact ⟨xr.cell 0 rfl, xr.cell 1 rfl, xr.cell 2 rfl, xd.cell 0 rfl, xd.cell 1 rfl, xd.cell 2 rfl⟩
  generalize V6.drew = V7 at *
  refine wpAnyH_take (i := 0) (v := ?_) rfl (by kernel_rfl) (by kernel_rfl) (by kernel_rfl) (fun _ _ _ h => h) (Or.inl ⟨by rfl, ?_⟩) (by assumption) ?_
  rotate_left
  · intro w hSw; (try dsimp only at hSw); go_simp; try with_reducible rfl
  try simp only [Act.put, List.getElem_toArray, List.getElem_cons_zero, List.getElem_cons_succ, List.setIfInBounds_toArray, List.set_cons_zero, List.set_cons_succ]
  refine wpAnyH_take (i := 1) (v := ?_) rfl (by kernel_rfl) (by kernel_rfl) (by kernel_rfl) (fun _ _ _ h => h) (Or.inl ⟨by rfl, ?_⟩) (by assumption) ?_
  rotate_left
  · intro w hSw; (try dsimp only at hSw); go_simp; try with_reducible rfl
  try simp only [Act.put, List.getElem_toArray, List.getElem_cons_zero, List.getElem_cons_succ, List.setIfInBounds_toArray, List.set_cons_zero, List.set_cons_succ]
  refine wpAnyH_take (i := 2) (v := ?_) rfl (by kernel_rfl) (by kernel_rfl) (by kernel_rfl) (fun _ _ _ h => h) (Or.inl ⟨by rfl, ?_⟩) (by assumption) ?_
  rotate_left
  · intro w hSw; (try dsimp only at hSw); go_simp; try with_reducible rfl
  try simp only [Act.put, List.getElem_toArray, List.getElem_cons_zero, List.getElem_cons_succ, List.setIfInBounds_toArray, List.set_cons_zero, List.set_cons_succ]
  refine wpAnyH_take (i := 3) (v := ?_) rfl (by kernel_rfl) (by kernel_rfl) (by kernel_rfl) (fun _ _ _ h => h) (Or.inl ⟨by rfl, ?_⟩) (by assumption) ?_
  rotate_left
  · intro w hSw; (try dsimp only at hSw); go_simp; try with_reducible rfl
  try simp only [Act.put, List.getElem_toArray, List.getElem_cons_zero, List.getElem_cons_succ, List.setIfInBounds_toArray, List.set_cons_zero, List.set_cons_succ]
  refine wpAnyH_take (i := 4) (v := ?_) rfl (by kernel_rfl) (by kernel_rfl) (by kernel_rfl) (fun _ _ _ h => h) (Or.inl ⟨by rfl, ?_⟩) (by assumption) ?_
  rotate_left
  · intro w hSw; (try dsimp only at hSw); go_simp; try with_reducible rfl
  try simp only [Act.put, List.getElem_toArray, List.getElem_cons_zero, List.getElem_cons_succ, List.setIfInBounds_toArray, List.set_cons_zero, List.set_cons_succ]
  refine wpAnyH_take (i := 5) (v := ?_) rfl (by kernel_rfl) (by kernel_rfl) (by kernel_rfl) (fun _ _ _ h => h) (Or.inl ⟨by rfl, ?_⟩) (by assumption) ?_
  rotate_left
  · intro w hSw; (try dsimp only at hSw); go_simp; try with_reducible rfl
  try simp only [Act.put, List.getElem_toArray, List.getElem_cons_zero, List.getElem_cons_succ, List.setIfInBounds_toArray, List.set_cons_zero, List.set_cons_succ]
  refine wpAnyH_take (i := 6) (v := ?_) rfl (by kernel_rfl) (by kernel_rfl) (by kernel_rfl) (fun _ _ _ h => h) (Or.inl ⟨by rfl, ?_⟩) (by assumption) ?_
  rotate_left
  · intro w hSw; (try dsimp only at hSw); go_simp; try with_reducible rfl
  try simp only [Act.put, List.getElem_toArray, List.getElem_cons_zero, List.getElem_cons_succ, List.setIfInBounds_toArray, List.set_cons_zero, List.set_cons_succ]
  refine wpAnyH_take (i := 7) (v := ?_) rfl (by kernel_rfl) (by kernel_rfl) (by kernel_rfl) (fun _ _ _ h => h) (Or.inl ⟨by rfl, ?_⟩) (by assumption) ?_
  rotate_left
  · intro w hSw; (try dsimp only at hSw); go_simp; try with_reducible rfl
  try simp only [Act.put, List.getElem_toArray, List.getElem_cons_zero, List.getElem_cons_succ, List.setIfInBounds_toArray, List.set_cons_zero, List.set_cons_succ]
  refine wpAnyH_take (i := 8) (v := ?_) rfl (by kernel_rfl) (by kernel_rfl) (by kernel_rfl) (fun _ _ _ h => h) (Or.inl ⟨by rfl, ?_⟩) (by assumption) ?_
  rotate_left
  · intro w hSw; (try dsimp only at hSw); go_simp; try with_reducible rfl
  try simp only [Act.put, List.getElem_toArray, List.getElem_cons_zero, List.getElem_cons_succ, List.setIfInBounds_toArray, List.set_cons_zero, List.set_cons_succ]
  refine wpAnyH_take (i := 9) (v := ?_) rfl (by kernel_rfl) (by kernel_rfl) (by kernel_rfl) (fun _ _ _ h => h) (Or.inl ⟨by rfl, ?_⟩) (by assumption) ?_
  rotate_left
  · intro w hSw; (try dsimp only at hSw); go_simp; try with_reducible rfl
  try simp only [Act.put, List.getElem_toArray, List.getElem_cons_zero, List.getElem_cons_succ, List.setIfInBounds_toArray, List.set_cons_zero, List.set_cons_succ]
  refine wpAnyH_take (i := 10) (v := ?_) rfl (by kernel_rfl) (by kernel_rfl) (by kernel_rfl) (fun _ _ _ h => h) (Or.inl ⟨by rfl, ?_⟩) (by assumption) ?_
  rotate_left
  · intro w hSw; (try dsimp only at hSw); go_simp; try with_reducible rfl
  try simp only [Act.put, List.getElem_toArray, List.getElem_cons_zero, List.getElem_cons_succ, List.setIfInBounds_toArray, List.set_cons_zero, List.set_cons_succ]
  refine wpAnyH_take (i := 11) (v := ?_) rfl (by kernel_rfl) (by kernel_rfl) (by kernel_rfl) (fun _ _ _ h => h) (Or.inl ⟨by rfl, ?_⟩) (by assumption) ?_
  rotate_left
  · intro w hSw; (try dsimp only at hSw); go_simp; try with_reducible rfl
  try simp only [Act.put, List.getElem_toArray, List.getElem_cons_zero, List.getElem_cons_succ, List.setIfInBounds_toArray, List.set_cons_zero, List.set_cons_succ]
  refine wpAnyH_take (i := 12) (v := ?_) rfl (by kernel_rfl) (by kernel_rfl) (by kernel_rfl) (fun _ _ _ h => h) (Or.inl ⟨by rfl, ?_⟩) (by assumption) ?_
  rotate_left
  · intro w hSw; (try dsimp only at hSw); go_simp; try with_reducible rfl
  try simp only [Act.put, List.getElem_toArray, List.getElem_cons_zero, List.getElem_cons_succ, List.setIfInBounds_toArray, List.set_cons_zero, List.set_cons_succ]
  refine wpAnyH_take (i := 13) (v := ?_) rfl (by kernel_rfl) (by kernel_rfl) (by kernel_rfl) (fun _ _ _ h => h) (Or.inl ⟨by rfl, ?_⟩) (by assumption) ?_
  rotate_left
  · intro w hSw; (try dsimp only at hSw); go_simp; try with_reducible rfl
  try simp only [Act.put, List.getElem_toArray, List.getElem_cons_zero, List.getElem_cons_succ, List.setIfInBounds_toArray, List.set_cons_zero, List.set_cons_succ]
  refine wpAnyH_take (i := 14) (v := ?_) rfl (by kernel_rfl) (by kernel_rfl) (by kernel_rfl) (fun _ _ _ h => h) (Or.inl ⟨by rfl, ?_⟩) (by assumption) ?_
  rotate_left
  · intro w hSw; (try dsimp only at hSw); go_simp; try with_reducible rfl
  try simp only [Act.put, List.getElem_toArray, List.getElem_cons_zero, List.getElem_cons_succ, List.setIfInBounds_toArray, List.set_cons_zero, List.set_cons_succ]
  refine wpAnyH_take (i := 15) (v := ?_) rfl (by kernel_rfl) (by kernel_rfl) (by kernel_rfl) (fun _ _ _ h => h) (Or.inl ⟨by rfl, ?_⟩) (by assumption) ?_
  rotate_left
  · intro w hSw; (try dsimp only at hSw); go_simp; try with_reducible rfl
  try simp only [Act.put, List.getElem_toArray, List.getElem_cons_zero, List.getElem_cons_succ, List.setIfInBounds_toArray, List.set_cons_zero, List.set_cons_succ]
  refine wpAnyH_take (i := 16) (v := ?_) rfl (by kernel_rfl) (by kernel_rfl) (by kernel_rfl) (fun _ _ _ h => h) (Or.inl ⟨by rfl, ?_⟩) (by assumption) ?_
  rotate_left
  · intro w hSw; (try dsimp only at hSw); go_simp; try with_reducible rfl
  try simp only [Act.put, List.getElem_toArray, List.getElem_cons_zero, List.getElem_cons_succ, List.setIfInBounds_toArray, List.set_cons_zero, List.set_cons_succ]
  refine wpAnyH_take (i := 17) (v := ?_) rfl (by kernel_rfl) (by kernel_rfl) (by kernel_rfl) (fun _ _ _ h => h) (Or.inl ⟨by rfl, ?_⟩) (by assumption) ?_
  rotate_left
  · intro w hSw; (try dsimp only at hSw); go_simp; try with_reducible rfl
  try simp only [Act.put, List.getElem_toArray, List.getElem_cons_zero, List.getElem_cons_succ, List.setIfInBounds_toArray, List.set_cons_zero, List.set_cons_succ]
  refine wpAnyH_take (i := 18) (v := ?_) rfl (by kernel_rfl) (by kernel_rfl) (by kernel_rfl) (fun _ _ _ h => h) (Or.inl ⟨by rfl, ?_⟩) (by assumption) ?_
  rotate_left
  · intro w hSw; (try dsimp only at hSw); go_simp; try with_reducible rfl
  try simp only [Act.put, List.getElem_toArray, List.getElem_cons_zero, List.getElem_cons_succ, List.setIfInBounds_toArray, List.set_cons_zero, List.set_cons_succ]
  refine wpAnyH_take (i := 19) (v := ?_) rfl (by kernel_rfl) (by kernel_rfl) (by kernel_rfl) (fun _ _ _ h => h) (Or.inl ⟨by rfl, ?_⟩) (by assumption) ?_
  rotate_left
  · intro w hSw; (try dsimp only at hSw); go_simp; try with_reducible rfl
  try simp only [Act.put, List.getElem_toArray, List.getElem_cons_zero, List.getElem_cons_succ, List.setIfInBounds_toArray, List.set_cons_zero, List.set_cons_succ]
  refine wpAnyH_take (i := 20) (v := ?_) rfl (by kernel_rfl) (by kernel_rfl) (by kernel_rfl) (fun _ _ _ h => h) (Or.inl ⟨by rfl, ?_⟩) (by assumption) ?_
  rotate_left
  · intro w hSw; (try dsimp only at hSw); go_simp; try with_reducible rfl
  try simp only [Act.put, List.getElem_toArray, List.getElem_cons_zero, List.getElem_cons_succ, List.setIfInBounds_toArray, List.set_cons_zero, List.set_cons_succ]
  refine wpAnyH_ready (rs := [21]) (by kernel_rfl) (by simp) ?_
  refine AllReadyH.cons rfl (fun K hK => ?_) AllReadyH.nil
  have xr0 := xr.cell 0 rfl
  have xrz0 := xr.frozen 0
  have xr1 := xr.cell 1 rfl
  have xrz1 := xr.frozen 1
  have xr2 := xr.cell 2 rfl
  have xrz2 := xr.frozen 2
  have xd0 := xd.cell 0 rfl
  have xdz0 := xd.frozen 0
  have xd1 := xd.cell 1 rfl
  have xdz1 := xd.frozen 1
  have xd2 := xd.cell 2 rfl
  have xdz2 := xd.frozen 2
  have xe0 := xe.cell 0 rfl
  have xez0 := xe.frozen 0
  have xe1 := xe.cell 1 rfl
  have xez1 := xe.frozen 1
  have xe2 := xe.cell 2 rfl
  have xez2 := xe.frozen 2
  have xg0 := xg.cell 0 rfl
  have xgz0 := xg.frozen 0
  have xg1 := xg.cell 1 rfl
  have xgz1 := xg.frozen 1
  have xg2 := xg.cell 2 rfl
  have xgz2 := xg.frozen 2
  go_simp
  refine (own07Mark _).mono ?_
  rintro e V8 ⟨rfl, hk⟩
  clear xr0 xrz0 xr1 xrz1 xr2 xrz2 xd0 xdz0 xd1 xdz1 xd2 xdz2 xe0 xez0 xe1 xez1 xe2 xez2 xg0 xgz0 xg1 xgz1 xg2 xgz2
  replace hB := below_seq hB hk
  replace xr := xr.seq hk
  replace xd := xd.seq hk
  replace xe := xe.seq hk
  replace xg := xg.seq hk
  clear hk
  have xr0 := xr.cell 0 rfl
  have xrz0 := xr.frozen 0
  have xr1 := xr.cell 1 rfl
  have xrz1 := xr.frozen 1
  have xr2 := xr.cell 2 rfl
  have xrz2 := xr.frozen 2
  have xd0 := xd.cell 0 rfl
  have xdz0 := xd.frozen 0
  have xd1 := xd.cell 1 rfl
  have xdz1 := xd.frozen 1
  have xd2 := xd.cell 2 rfl
  have xdz2 := xd.frozen 2
  have xe0 := xe.cell 0 rfl
  have xez0 := xe.frozen 0
  have xe1 := xe.cell 1 rfl
  have xez1 := xe.frozen 1
  have xe2 := xe.cell 2 rfl
  have xez2 := xe.frozen 2
  have xg0 := xg.cell 0 rfl
  have xgz0 := xg.frozen 0
  have xg1 := xg.cell 1 rfl
  have xgz1 := xg.frozen 1
  have xg2 := xg.cell 2 rfl
  have xgz2 := xg.frozen 2
  try go_wp2_with fail
  clear xr0 xrz0 xr1 xrz1 xr2 xrz2 xd0 xdz0 xd1 xdz1 xd2 xdz2 xe0 xez0 xe1 xez1 xe2 xez2 xg0 xgz0 xg1 xgz1 xg2 xgz2
  clear hHeld
  refine hK.out _ _ ?_ (fun hHeld => ?_)
  · exact ⟨xr.cell 0 rfl, xr.cell 1 rfl, xr.cell 2 rfl, xd.cell 0 rfl, xd.cell 1 rfl, xd.cell 2 rfl⟩
  clear hK K
  try simp only [Act.put, List.getElem_toArray, List.getElem_cons_zero, List.getElem_cons_succ, List.setIfInBounds_toArray, List.set_cons_zero, List.set_cons_succ]
  refine wpAnyH_take (i := 22) (v := ?_) rfl (by kernel_rfl) (by kernel_rfl) (by kernel_rfl) (fun _ _ _ h => h) (Or.inl ⟨by rfl, ?_⟩) (by assumption) ?_
  rotate_left
  · intro w hSw; (try dsimp only at hSw); go_simp; try with_reducible rfl
  try simp only [Act.put, List.getElem_toArray, List.getElem_cons_zero, List.getElem_cons_succ, List.setIfInBounds_toArray, List.set_cons_zero, List.set_cons_succ]
  refine wpAnyH_take (i := 23) (v := ?_) rfl (by kernel_rfl) (by kernel_rfl) (by kernel_rfl) (fun _ _ _ h => h) (Or.inl ⟨by rfl, ?_⟩) (by assumption) ?_
  rotate_left
  · intro w hSw; (try dsimp only at hSw); go_simp; try with_reducible rfl
  try simp only [Act.put, List.getElem_toArray, List.getElem_cons_zero, List.getElem_cons_succ, List.setIfInBounds_toArray, List.set_cons_zero, List.set_cons_succ]
  refine wpAnyH_take (i := 24) (v := ?_) rfl (by kernel_rfl) (by kernel_rfl) (by kernel_rfl) (fun _ _ _ h => h) (Or.inl ⟨by rfl, ?_⟩) (by assumption) ?_
  rotate_left
  · intro w hSw; (try dsimp only at hSw); go_simp; try with_reducible rfl
  try simp only [Act.put, List.getElem_toArray, List.getElem_cons_zero, List.getElem_cons_succ, List.setIfInBounds_toArray, List.set_cons_zero, List.set_cons_succ]
  refine wpAnyH_take (i := 25) (v := ?_) rfl (by kernel_rfl) (by kernel_rfl) (by kernel_rfl) (fun _ _ _ h => h) (Or.inl ⟨by rfl, ?_⟩) (by assumption) ?_
  rotate_left
  · intro w hSw; (try dsimp only at hSw); go_simp; try with_reducible rfl
  try simp only [Act.put, List.getElem_toArray, List.getElem_cons_zero, List.getElem_cons_succ, List.setIfInBounds_toArray, List.set_cons_zero, List.set_cons_succ]
  refine wpAnyH_take (i := 26) (v := ?_) rfl (by kernel_rfl) (by kernel_rfl) (by kernel_rfl) (fun _ _ _ h => h) (Or.inl ⟨by rfl, ?_⟩) (by assumption) ?_
  rotate_left
  · intro w hSw; (try dsimp only at hSw); go_simp; try with_reducible rfl
  try simp only [Act.put, List.getElem_toArray, List.getElem_cons_zero, List.getElem_cons_succ, List.setIfInBounds_toArray, List.set_cons_zero, List.set_cons_succ]
  refine wpAnyH_take (i := 27) (v := ?_) rfl (by kernel_rfl) (by kernel_rfl) (by kernel_rfl) (fun _ _ _ h => h) (Or.inl ⟨by rfl, ?_⟩) (by assumption) ?_
  rotate_left
  · intro w hSw; (try dsimp only at hSw); go_simp; try with_reducible rfl
  try simp only [Act.put, List.getElem_toArray, List.getElem_cons_zero, List.getElem_cons_succ, List.setIfInBounds_toArray, List.set_cons_zero, List.set_cons_succ]
  refine wpAnyH_take (i := 28) (v := ?_) rfl (by kernel_rfl) (by kernel_rfl) (by kernel_rfl) (fun _ _ _ h => h) (Or.inl ⟨by rfl, ?_⟩) (by assumption) ?_
  rotate_left
  · intro w hSw; (try dsimp only at hSw); go_simp; try with_reducible rfl
  try simp only [Act.put, List.getElem_toArray, List.getElem_cons_zero, List.getElem_cons_succ, List.setIfInBounds_toArray, List.set_cons_zero, List.set_cons_succ]
  refine wpAnyH_take (i := 29) (v := ?_) rfl (by kernel_rfl) (by kernel_rfl) (by kernel_rfl) (fun _ _ _ h => h) (Or.inl ⟨by rfl, ?_⟩) (by assumption) ?_
  rotate_left
  · intro w hSw; (try dsimp only at hSw); go_simp; try with_reducible rfl
  try simp only [Act.put, List.getElem_toArray, List.getElem_cons_zero, List.getElem_cons_succ, List.setIfInBounds_toArray, List.set_cons_zero, List.set_cons_succ]
  refine wpAnyH_take (i := 30) (v := ?_) rfl (by kernel_rfl) (by kernel_rfl) (by kernel_rfl) (fun _ _ _ h => h) (Or.inl ⟨by rfl, ?_⟩) (by assumption) ?_
  rotate_left
  · intro w hSw; (try dsimp only at hSw); go_simp; try with_reducible rfl
  try simp only [Act.put, List.getElem_toArray, List.getElem_cons_zero, List.getElem_cons_succ, List.setIfInBounds_toArray, List.set_cons_zero, List.set_cons_succ]
  refine wpAnyH_take (i := 31) (v := ?_) rfl (by kernel_rfl) (by kernel_rfl) (by kernel_rfl) (fun _ _ _ h => h) (Or.inl ⟨by rfl, ?_⟩) (by assumption) ?_
  rotate_left
  · intro w hSw; (try dsimp only at hSw); go_simp; try with_reducible rfl
  try simp only [Act.put, List.getElem_toArray, List.getElem_cons_zero, List.getElem_cons_succ, List.setIfInBounds_toArray, List.set_cons_zero, List.set_cons_succ]
  refine wpAnyH_take (i := 32) (v := ?_) rfl (by kernel_rfl) (by kernel_rfl) (by kernel_rfl) (fun _ _ _ h => h) (Or.inl ⟨by rfl, ?_⟩) (by assumption) ?_
  rotate_left
  · intro w hSw; (try dsimp only at hSw); go_simp; try with_reducible rfl
  try simp only [Act.put, List.getElem_toArray, List.getElem_cons_zero, List.getElem_cons_succ, List.setIfInBounds_toArray, List.set_cons_zero, List.set_cons_succ]
  refine wpAnyH_take (i := 33) (v := ?_) rfl (by kernel_rfl) (by kernel_rfl) (by kernel_rfl) (fun _ _ _ h => h) (Or.inl ⟨by rfl, ?_⟩) (by assumption) ?_
  rotate_left
  · intro w hSw; (try dsimp only at hSw); go_simp; try with_reducible rfl
  try simp only [Act.put, List.getElem_toArray, List.getElem_cons_zero, List.getElem_cons_succ, List.setIfInBounds_toArray, List.set_cons_zero, List.set_cons_succ]
  refine wpAnyH_take (i := 34) (v := ?_) rfl (by kernel_rfl) (by kernel_rfl) (by kernel_rfl) (fun _ _ _ h => h) (Or.inl ⟨by rfl, ?_⟩) (by assumption) ?_
  rotate_left
  · intro w hSw; (try dsimp only at hSw); go_simp; try with_reducible rfl
  try simp only [Act.put, List.getElem_toArray, List.getElem_cons_zero, List.getElem_cons_succ, List.setIfInBounds_toArray, List.set_cons_zero, List.set_cons_succ]
  refine wpAnyH_take (i := 35) (v := ?_) rfl (by kernel_rfl) (by kernel_rfl) (by kernel_rfl) (fun _ _ _ h => h) (Or.inl ⟨by rfl, ?_⟩) (by assumption) ?_
  rotate_left
  · intro w hSw; (try dsimp only at hSw); go_simp; try with_reducible rfl
  try simp only [Act.put, List.getElem_toArray, List.getElem_cons_zero, List.getElem_cons_succ, List.setIfInBounds_toArray, List.set_cons_zero, List.set_cons_succ]
  refine wpAnyH_take (i := 36) (v := ?_) rfl (by kernel_rfl) (by kernel_rfl) (by kernel_rfl) (fun _ _ _ h => h) (Or.inl ⟨by rfl, ?_⟩) (by assumption) ?_
  rotate_left
  · intro w hSw; (try dsimp only at hSw); go_simp; try with_reducible rfl
  try simp only [Act.put, List.getElem_toArray, List.getElem_cons_zero, List.getElem_cons_succ, List.setIfInBounds_toArray, List.set_cons_zero, List.set_cons_succ]
  refine wpAnyH_take (i := 37) (v := ?_) rfl (by kernel_rfl) (by kernel_rfl) (by kernel_rfl) (fun _ _ _ h => h) (Or.inl ⟨by rfl, ?_⟩) (by assumption) ?_
  rotate_left
  · intro w hSw; (try dsimp only at hSw); go_simp; try with_reducible rfl
  try simp only [Act.put, List.getElem_toArray, List.getElem_cons_zero, List.getElem_cons_succ, List.setIfInBounds_toArray, List.set_cons_zero, List.set_cons_succ]
  refine wpAnyH_take (i := 38) (v := ?_) rfl (by kernel_rfl) (by kernel_rfl) (by kernel_rfl) (fun _ _ _ h => h) (Or.inl ⟨by rfl, ?_⟩) (by assumption) ?_
  rotate_left
  · intro w hSw; (try dsimp only at hSw); go_simp; try with_reducible rfl
  try simp only [Act.put, List.getElem_toArray, List.getElem_cons_zero, List.getElem_cons_succ, List.setIfInBounds_toArray, List.set_cons_zero, List.set_cons_succ]
  refine wpAnyH_take (i := 39) (v := ?_) rfl (by kernel_rfl) (by kernel_rfl) (by kernel_rfl) (fun _ _ _ h => h) (Or.inl ⟨by rfl, ?_⟩) (by assumption) ?_
  rotate_left
  · intro w hSw; (try dsimp only at hSw); go_simp; try with_reducible rfl
  try simp only [Act.put, List.getElem_toArray, List.getElem_cons_zero, List.getElem_cons_succ, List.setIfInBounds_toArray, List.set_cons_zero, List.set_cons_succ]
  refine wpAnyH_take (i := 40) (v := ?_) rfl (by kernel_rfl) (by kernel_rfl) (by kernel_rfl) (fun _ _ _ h => h) (Or.inl ⟨by rfl, ?_⟩) (by assumption) ?_
  rotate_left
  · intro w hSw; (try dsimp only at hSw); go_simp; try with_reducible rfl
  try simp only [Act.put, List.getElem_toArray, List.getElem_cons_zero, List.getElem_cons_succ, List.setIfInBounds_toArray, List.set_cons_zero, List.set_cons_succ]
  refine wpAnyH_take (i := 41) (v := ?_) rfl (by kernel_rfl) (by kernel_rfl) (by kernel_rfl) (fun _ _ _ h => h) (Or.inl ⟨by rfl, ?_⟩) (by assumption) ?_
  rotate_left
  · intro w hSw; (try dsimp only at hSw); go_simp; try with_reducible rfl
  try simp only [Act.put, List.getElem_toArray, List.getElem_cons_zero, List.getElem_cons_succ, List.setIfInBounds_toArray, List.set_cons_zero, List.set_cons_succ]
  refine wpAnyH_take (i := 42) (v := ?_) rfl (by kernel_rfl) (by kernel_rfl) (by kernel_rfl) (fun _ _ _ h => h) (Or.inl ⟨by rfl, ?_⟩) (by assumption) ?_
  rotate_left
  · intro w hSw; (try dsimp only at hSw); go_simp; try with_reducible rfl
  try simp only [Act.put, List.getElem_toArray, List.getElem_cons_zero, List.getElem_cons_succ, List.setIfInBounds_toArray, List.set_cons_zero, List.set_cons_succ]
  refine wpAnyH_ready (rs := [43]) (by kernel_rfl) (by simp) ?_
  refine AllReadyH.cons rfl (fun K hK => ?_) AllReadyH.nil
  have xr0 := xr.cell 0 rfl
  have xrz0 := xr.frozen 0
  have xr1 := xr.cell 1 rfl
  have xrz1 := xr.frozen 1
  have xr2 := xr.cell 2 rfl
  have xrz2 := xr.frozen 2
  have xd0 := xd.cell 0 rfl
  have xdz0 := xd.frozen 0
  have xd1 := xd.cell 1 rfl
  have xdz1 := xd.frozen 1
  have xd2 := xd.cell 2 rfl
  have xdz2 := xd.frozen 2
  have xe0 := xe.cell 0 rfl
  have xez0 := xe.frozen 0
  have xe1 := xe.cell 1 rfl
  have xez1 := xe.frozen 1
  have xe2 := xe.cell 2 rfl
  have xez2 := xe.frozen 2
  have xg0 := xg.cell 0 rfl
  have xgz0 := xg.frozen 0
  have xg1 := xg.cell 1 rfl
  have xgz1 := xg.frozen 1
  have xg2 := xg.cell 2 rfl
  have xgz2 := xg.frozen 2
  go_simp
  refine (T7.out _).mono ?_
  rintro e V9 ⟨rfl, hk⟩
  clear xr0 xrz0 xr1 xrz1 xr2 xrz2 xd0 xdz0 xd1 xdz1 xd2 xdz2 xe0 xez0 xe1 xez1 xe2 xez2 xg0 xgz0 xg1 xgz1 xg2 xgz2
  replace hB := below_seq hB hk
  replace xr := xr.seq hk
  replace xd := xd.seq hk
  replace xe := xe.seq hk
  replace xg := xg.seq hk
  clear hk
  have xr0 := xr.cell 0 rfl
  have xrz0 := xr.frozen 0
  have xr1 := xr.cell 1 rfl
  have xrz1 := xr.frozen 1
  have xr2 := xr.cell 2 rfl
  have xrz2 := xr.frozen 2
  have xd0 := xd.cell 0 rfl
  have xdz0 := xd.frozen 0
  have xd1 := xd.cell 1 rfl
  have xdz1 := xd.frozen 1
  have xd2 := xd.cell 2 rfl
  have xdz2 := xd.frozen 2
  have xe0 := xe.cell 0 rfl
  have xez0 := xe.frozen 0
  have xe1 := xe.cell 1 rfl
  have xez1 := xe.frozen 1
  have xe2 := xe.cell 2 rfl
  have xez2 := xe.frozen 2
  have xg0 := xg.cell 0 rfl
  have xgz0 := xg.frozen 0
  have xg1 := xg.cell 1 rfl
  have xgz1 := xg.frozen 1
  have xg2 := xg.cell 2 rfl
  have xgz2 := xg.frozen 2
  try go_wp2_with fail
  clear xr0 xrz0 xr1 xrz1 xr2 xrz2 xd0 xdz0 xd1 xdz1 xd2 xdz2 xe0 xez0 xe1 xez1 xe2 xez2 xg0 xgz0 xg1 xgz1 xg2 xgz2
  clear hHeld
  refine hK.out _ _ ?_ (fun hHeld => ?_)
  · exact ⟨xr.cell 0 rfl, xr.cell 1 rfl, xr.cell 2 rfl, xd.cell 0 rfl, xd.cell 1 rfl, xd.cell 2 rfl⟩
  clear hK K
  try simp only [Act.put, List.getElem_toArray, List.getElem_cons_zero, List.getElem_cons_succ, List.setIfInBounds_toArray, List.set_cons_zero, List.set_cons_succ]
  refine wpAnyH_take (i := 44) (v := ?_) rfl (by kernel_rfl) (by kernel_rfl) (by kernel_rfl) (fun _ _ _ h => h) (Or.inl ⟨by rfl, ?_⟩) (by assumption) ?_
  rotate_left
  · intro w hSw; (try dsimp only at hSw); go_simp; try with_reducible rfl
  try simp only [Act.put, List.getElem_toArray, List.getElem_cons_zero, List.getElem_cons_succ, List.setIfInBounds_toArray, List.set_cons_zero, List.set_cons_succ]
  refine wpAnyH_take (i := 45) (v := ?_) rfl (by kernel_rfl) (by kernel_rfl) (by kernel_rfl) (fun _ _ _ h => h) (Or.inl ⟨by rfl, ?_⟩) (by assumption) ?_
  rotate_left
  · intro w hSw; (try dsimp only at hSw); go_simp; try with_reducible rfl
  try simp only [Act.put, List.getElem_toArray, List.getElem_cons_zero, List.getElem_cons_succ, List.setIfInBounds_toArray, List.set_cons_zero, List.set_cons_succ]
  refine wpAnyH_done (by kernel_rfl) ?_ _
  clear hHeld
  have xr0 := xr.cell 0 rfl
  have xrz0 := xr.frozen 0
  have xr1 := xr.cell 1 rfl
  have xrz1 := xr.frozen 1
  have xr2 := xr.cell 2 rfl
  have xrz2 := xr.frozen 2
  have xd0 := xd.cell 0 rfl
  have xdz0 := xd.frozen 0
  have xd1 := xd.cell 1 rfl
  have xdz1 := xd.frozen 1
  have xd2 := xd.cell 2 rfl
  have xdz2 := xd.frozen 2
  have xe0 := xe.cell 0 rfl
  have xez0 := xe.frozen 0
  have xe1 := xe.cell 1 rfl
  have xez1 := xe.frozen 1
  have xe2 := xe.cell 2 rfl
  have xez2 := xe.frozen 2
  have xg0 := xg.cell 0 rfl
  have xgz0 := xg.frozen 0
  have xg1 := xg.cell 1 rfl
  have xgz1 := xg.frozen 1
  have xg2 := xg.cell 2 rfl
  have xgz2 := xg.frozen 2
  go_wp2
  go_ret
  exact ⟨rfl, hB⟩
end Go.Proofs.Ytoemjfjmpmngead

/- The laws' own helpers of layer 14: contracts only. -/
import Derived.Test.YtkdadjojahfmeaaRows
import Derived.Test.YtkdadjojahfmeaaStateOwn
import Derived.Test.YtkdadjojahfmeaaStateOpen
import Derived.Test.YtkdadjojahfmeaaLaid
import Derived.Test.YtkdadjojahfmeaaInts
import Derived.Test.YtkdadjojahfmeaaBase
import Derived.Test.YtkdadjojahfmeaaBox
import Derived.WalkKit
import Derived.ProofKit
import Derived.OpenShut
import Derived.ChangeMaps5
import Derived.Carry
import Derived.Lib.Hide
import Derived.OwnWalk
import Derived.Deep.RegionHeld3
import Derived.WalkLawsBesides
import Derived.WalkSpells
import Derived.IntWalk
namespace Go.Proofs.Ytkdadjojahfmeaa
open Go.RowKit
set_option linter.unusedVariables false
set_option linter.unusedSimpArgs false

def shS : St := ⟨3, true, true, -1, 2, 5⟩
theorem shS_ok : shS.ok := ⟨by decide, by decide, by decide, by decide⟩
theorem shS_legal : Legal shS := ⟨by decide, by decide, by decide, by decide, Or.inl rfl⟩
theorem shS_pack : packN shS = 1947243888867540994 := by decide
theorem sh_none : unpR 432345564227567616 = St.zero ∧ unpE 432345564227567616 = 13 := by
  have h : unpE 432345564227567616 ≠ 0 := by decide
  exact unp_none h
def shL : St := ⟨0, false, false, 1, 0, 0⟩
theorem shL_ok : shL.ok := ⟨by decide, by decide, by decide, by decide⟩
theorem zero_ok : St.zero.ok := ⟨by decide, by decide, by decide, by decide⟩
theorem zero_legal : Legal St.zero := ⟨by decide, by decide, by decide, by decide, Or.inr ⟨rfl, rfl⟩⟩

set_option maxRecDepth 100000 in
set_option maxHeartbeats 4000000 in
theorem shown14 (W : World) : Gives Try.prog 19 #[] W (.bool true) := by
  have T1 := Lib.hid (fun (W : World) => (show Gives Try.prog 13 #[.agg #[.int .i64 3, .bool true, .bool true, .int .i64 (-1), .int .i64 2, .int .i64 5]] W (.int .u64 1947243888867540994) from by
    have h := own14Pack shS W shS_ok
    rw [shS_pack] at h; exact h))
  have T2 := Lib.hid (fun (W : World) => (show Gives Try.prog 9 #[.int .u64 1947243888867540994] W (.tuple #[.agg #[.int .i64 3, .bool true, .bool true, .int .i64 (-1), .int .i64 2, .int .i64 5], .int .i64 0]) from by
    have h := own14Unpack 1947243888867540994 W (by decide)
    rw [← shS_pack, (unpOk_pack shS_legal).2.1, (unpOk_pack shS_legal).2.2, shS_pack] at h; exact h))
  have T3 := Lib.hid (fun (W : World) => (show Gives Try.prog 9 #[.int .u64 432345564227567616] W (.tuple #[.agg #[.int .i64 0, .bool false, .bool false, .int .i64 0, .int .i64 0, .int .i64 0], .int .i64 13]) from by
    have h := own14Unpack 432345564227567616 W (by decide)
    rw [sh_none.1, sh_none.2] at h; exact h))
  have T4 := Lib.hid (fun (W : World) => (show Gives Try.prog 11 #[.agg #[.int .i64 3, .bool true, .bool true, .int .i64 (-1), .int .i64 2, .int .i64 5]] W (.bool true) from by
    have h := own14Legal shS W shS_ok
    rw [(legal_iff shS).2 shS_legal] at h; exact h))
  have T5 := Lib.hid (fun (W : World) => (show Gives Try.prog 11 #[.agg #[.int .i64 0, .bool false, .bool false, .int .i64 1, .int .i64 0, .int .i64 0]] W (.bool false) from by
    have h := own14Legal shL W shL_ok
    rw [show legalB shL = false from by decide] at h; exact h))
  have T6 := Lib.hid (fun (W : World) => (show Gives Try.prog 15 #[.agg #[.int .i64 3, .bool true, .bool true, .int .i64 (-1), .int .i64 2, .int .i64 5]] W (.int .i64 2) from by
    have h := own14Sound shS W shS_ok
    rw [show soundN shS.iso = 2 from by decide] at h; exact h))
  have T7 := Lib.hid (fun (W : World) => (show Gives Try.prog 17 #[] W (.agg #[.int .i64 0, .bool false, .bool false, .int .i64 0, .int .i64 0, .int .i64 0]) from by
    have h := own14Default W
    exact h))
  have T8 := Lib.hid (fun (W : World) => (show Gives Try.prog 13 #[.agg #[.int .i64 0, .bool false, .bool false, .int .i64 0, .int .i64 0, .int .i64 0]] W (.int .u64 0) from by
    have h := own14Pack St.zero W zero_ok
    rw [show packN St.zero = 0 from by decide] at h; exact h))
  have hB : Below W.heap.size W (W.alloc (.cells #[.int .i64 3, .bool true, .bool true, .int .i64 (-1), .int .i64 2, .int .i64 5] 23)) := ((Below.refl _ _).alloc (Nat.le_refl _) _)
  have xs := (Box.new 23 W [.int .i64 3, .bool true, .bool true, .int .i64 (-1), .int .i64 2, .int .i64 5])
  go_enter Try.func19, Try.ntmps19
  obtain ⟨xs0, xsz0, xs1, xsz1, xs2, xsz2, xs3, xsz3, xs4, xsz4, xs5, xsz5⟩ := xs.f6
  go_wp2_with fail
  refine (T1.out _).mono ?_
  rintro e V1 ⟨rfl, hk⟩
  clear xs0 xsz0 xs1 xsz1 xs2 xsz2 xs3 xsz3 xs4 xsz4 xs5 xsz5
  replace hB := below_seq hB hk
  replace xs := xs.seq hk
  clear hk
  obtain ⟨xs0, xsz0, xs1, xsz1, xs2, xsz2, xs3, xsz3, xs4, xsz4, xs5, xsz5⟩ := xs.f6
  go_wp2_with fail
  refine (T2.out _).mono ?_
  rintro e V2 ⟨rfl, hk⟩
  clear xs0 xsz0 xs1 xsz1 xs2 xsz2 xs3 xsz3 xs4 xsz4 xs5 xsz5
  replace hB := below_seq hB hk
  replace xs := xs.seq hk
  clear hk
  have xt := Box.new 23 V2 [.int .i64 3, .bool true, .bool true, .int .i64 (-1), .int .i64 2, .int .i64 5]
  have ne_xt_xs : V2.heap.size ≠ W.heap.size := Nat.ne_of_gt xs.lt
  have le_xt : W.heap.size ≤ V2.heap.size := hB.size
  replace xs := xs.alloc (.cells #[.int .i64 3, .bool true, .bool true, .int .i64 (-1), .int .i64 2, .int .i64 5] 23)
  replace hB := hB.alloc hB.size (.cells #[.int .i64 3, .bool true, .bool true, .int .i64 (-1), .int .i64 2, .int .i64 5] 23)
  obtain ⟨xs0, xsz0, xs1, xsz1, xs2, xsz2, xs3, xsz3, xs4, xsz4, xs5, xsz5⟩ := xs.f6
  obtain ⟨xt0, xtz0, xt1, xtz1, xt2, xtz2, xt3, xtz3, xt4, xtz4, xt5, xtz5⟩ := xt.f6
  go_wp2_with fail
  refine (T3.out _).mono ?_
  rintro e V3 ⟨rfl, hk⟩
  clear xs0 xsz0 xs1 xsz1 xs2 xsz2 xs3 xsz3 xs4 xsz4 xs5 xsz5 xt0 xtz0 xt1 xtz1 xt2 xtz2 xt3 xtz3 xt4 xtz4 xt5 xtz5
  replace hB := below_seq hB hk
  replace xs := xs.seq hk
  replace xt := xt.seq hk
  clear hk
  have xu := Box.new 23 V3 [.int .i64 0, .bool false, .bool false, .int .i64 0, .int .i64 0, .int .i64 0]
  have ne_xu_xs : V3.heap.size ≠ W.heap.size := Nat.ne_of_gt xs.lt
  have ne_xu_xt : V3.heap.size ≠ V2.heap.size := Nat.ne_of_gt xt.lt
  have le_xu : W.heap.size ≤ V3.heap.size := hB.size
  replace xs := xs.alloc (.cells #[.int .i64 0, .bool false, .bool false, .int .i64 0, .int .i64 0, .int .i64 0] 23)
  replace xt := xt.alloc (.cells #[.int .i64 0, .bool false, .bool false, .int .i64 0, .int .i64 0, .int .i64 0] 23)
  replace hB := hB.alloc hB.size (.cells #[.int .i64 0, .bool false, .bool false, .int .i64 0, .int .i64 0, .int .i64 0] 23)
  obtain ⟨xs0, xsz0, xs1, xsz1, xs2, xsz2, xs3, xsz3, xs4, xsz4, xs5, xsz5⟩ := xs.f6
  obtain ⟨xt0, xtz0, xt1, xtz1, xt2, xtz2, xt3, xtz3, xt4, xtz4, xt5, xtz5⟩ := xt.f6
  obtain ⟨xu0, xuz0, xu1, xuz1, xu2, xuz2, xu3, xuz3, xu4, xuz4, xu5, xuz5⟩ := xu.f6
  go_wp2_with fail
  refine (T4.out _).mono ?_
  rintro e V4 ⟨rfl, hk⟩
  clear xs0 xsz0 xs1 xsz1 xs2 xsz2 xs3 xsz3 xs4 xsz4 xs5 xsz5 xt0 xtz0 xt1 xtz1 xt2 xtz2 xt3 xtz3 xt4 xtz4 xt5 xtz5 xu0 xuz0 xu1 xuz1 xu2 xuz2 xu3 xuz3 xu4 xuz4 xu5 xuz5
  replace hB := below_seq hB hk
  replace xs := xs.seq hk
  replace xt := xt.seq hk
  replace xu := xu.seq hk
  clear hk
  obtain ⟨xs0, xsz0, xs1, xsz1, xs2, xsz2, xs3, xsz3, xs4, xsz4, xs5, xsz5⟩ := xs.f6
  obtain ⟨xt0, xtz0, xt1, xtz1, xt2, xtz2, xt3, xtz3, xt4, xtz4, xt5, xtz5⟩ := xt.f6
  obtain ⟨xu0, xuz0, xu1, xuz1, xu2, xuz2, xu3, xuz3, xu4, xuz4, xu5, xuz5⟩ := xu.f6
  go_wp2_with fail
  refine (T5.out _).mono ?_
  rintro e V5 ⟨rfl, hk⟩
  clear xs0 xsz0 xs1 xsz1 xs2 xsz2 xs3 xsz3 xs4 xsz4 xs5 xsz5 xt0 xtz0 xt1 xtz1 xt2 xtz2 xt3 xtz3 xt4 xtz4 xt5 xtz5 xu0 xuz0 xu1 xuz1 xu2 xuz2 xu3 xuz3 xu4 xuz4 xu5 xuz5
  replace hB := below_seq hB hk
  replace xs := xs.seq hk
  replace xt := xt.seq hk
  replace xu := xu.seq hk
  clear hk
  obtain ⟨xs0, xsz0, xs1, xsz1, xs2, xsz2, xs3, xsz3, xs4, xsz4, xs5, xsz5⟩ := xs.f6
  obtain ⟨xt0, xtz0, xt1, xtz1, xt2, xtz2, xt3, xtz3, xt4, xtz4, xt5, xtz5⟩ := xt.f6
  obtain ⟨xu0, xuz0, xu1, xuz1, xu2, xuz2, xu3, xuz3, xu4, xuz4, xu5, xuz5⟩ := xu.f6
  go_wp2_with fail
  refine (T6.out _).mono ?_
  rintro e V6 ⟨rfl, hk⟩
  clear xs0 xsz0 xs1 xsz1 xs2 xsz2 xs3 xsz3 xs4 xsz4 xs5 xsz5 xt0 xtz0 xt1 xtz1 xt2 xtz2 xt3 xtz3 xt4 xtz4 xt5 xtz5 xu0 xuz0 xu1 xuz1 xu2 xuz2 xu3 xuz3 xu4 xuz4 xu5 xuz5
  replace hB := below_seq hB hk
  replace xs := xs.seq hk
  replace xt := xt.seq hk
  replace xu := xu.seq hk
  clear hk
  obtain ⟨xs0, xsz0, xs1, xsz1, xs2, xsz2, xs3, xsz3, xs4, xsz4, xs5, xsz5⟩ := xs.f6
  obtain ⟨xt0, xtz0, xt1, xtz1, xt2, xtz2, xt3, xtz3, xt4, xtz4, xt5, xtz5⟩ := xt.f6
  obtain ⟨xu0, xuz0, xu1, xuz1, xu2, xuz2, xu3, xuz3, xu4, xuz4, xu5, xuz5⟩ := xu.f6
  go_wp2_with fail
  refine (T7.out _).mono ?_
  rintro e V7 ⟨rfl, hk⟩
  clear xs0 xsz0 xs1 xsz1 xs2 xsz2 xs3 xsz3 xs4 xsz4 xs5 xsz5 xt0 xtz0 xt1 xtz1 xt2 xtz2 xt3 xtz3 xt4 xtz4 xt5 xtz5 xu0 xuz0 xu1 xuz1 xu2 xuz2 xu3 xuz3 xu4 xuz4 xu5 xuz5
  replace hB := below_seq hB hk
  replace xs := xs.seq hk
  replace xt := xt.seq hk
  replace xu := xu.seq hk
  clear hk
  obtain ⟨xs0, xsz0, xs1, xsz1, xs2, xsz2, xs3, xsz3, xs4, xsz4, xs5, xsz5⟩ := xs.f6
  obtain ⟨xt0, xtz0, xt1, xtz1, xt2, xtz2, xt3, xtz3, xt4, xtz4, xt5, xtz5⟩ := xt.f6
  obtain ⟨xu0, xuz0, xu1, xuz1, xu2, xuz2, xu3, xuz3, xu4, xuz4, xu5, xuz5⟩ := xu.f6
  go_wp2_with fail
  refine (T8.out _).mono ?_
  rintro e V8 ⟨rfl, hk⟩
  clear xs0 xsz0 xs1 xsz1 xs2 xsz2 xs3 xsz3 xs4 xsz4 xs5 xsz5 xt0 xtz0 xt1 xtz1 xt2 xtz2 xt3 xtz3 xt4 xtz4 xt5 xtz5 xu0 xuz0 xu1 xuz1 xu2 xuz2 xu3 xuz3 xu4 xuz4 xu5 xuz5
  replace hB := below_seq hB hk
  replace xs := xs.seq hk
  replace xt := xt.seq hk
  replace xu := xu.seq hk
  clear hk
  obtain ⟨xs0, xsz0, xs1, xsz1, xs2, xsz2, xs3, xsz3, xs4, xsz4, xs5, xsz5⟩ := xs.f6
  obtain ⟨xt0, xtz0, xt1, xtz1, xt2, xtz2, xt3, xtz3, xt4, xtz4, xt5, xtz5⟩ := xt.f6
  obtain ⟨xu0, xuz0, xu1, xuz1, xu2, xuz2, xu3, xuz3, xu4, xuz4, xu5, xuz5⟩ := xu.f6
  go_wp2
  go_ret
  exact ⟨rfl, hB⟩

end Go.Proofs.Ytkdadjojahfmeaa

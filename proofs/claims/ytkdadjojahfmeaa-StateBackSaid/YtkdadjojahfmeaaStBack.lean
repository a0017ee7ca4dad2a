/- A state that is legal is unpacked as it was; a number that is unpacked is packed as it was (StateBack); no condition. -/
import Derived.Test.YtkdadjojahfmeaaStateLaw
import Derived.Deep.RegionHeld3
import Derived.WalkLawsBesides
import Derived.WalkSpells
import Derived.IntWalk
import Derived.Lib.Hide
import Derived.Test.YtkdadjojahfmeaaBox
import Derived.ProofKit
import Derived.OpenShut
import Derived.ChangeMaps5
import Derived.Test.YtkdadjojahfmeaaInts
namespace Go.Proofs.Ytkdadjojahfmeaa.StateBack
open Go.ChangeShapes Go.WideShapes Go.ChangeAt Go.RowKit Go.ChangeMaps
set_option linter.unusedVariables false
set_option linter.unusedSimpArgs false

set_option maxRecDepth 100000 in
set_option maxHeartbeats 8000000 in
theorem walk (s : St) (n : BitVec 64) (W : World) (hs : s.ok) :
    Calls Try.prog 4 #[.agg #[.int .i64 s.mode, .bool s.armed, .bool s.home, .int .i64 s.lat, .int .i64 s.lon, .int .i64 s.iso], .int .u64 (n.toNat : Int)] W fun e W' => e = .returned (.bool true) ∧ Below W.heap.size W W' := by
  have hp : packN s < 18446744073709551616 := Nat.lt_trans (packN_lt s) (by decide)
  have TP := Lib.hid (fun (V : World) => own14Pack s V hs)
  have TU := fun (V : World) => own14Unpack (packN s) V hp
  have TL := fun (V : World) => own14Legal s V hs
  have TN := fun (V : World) => own14Unpack n.toNat V n.isLt
  by_cases k : Legal s
  · obtain ⟨_, e1, e2⟩ := unpOk_pack k
    simp only [e1, e2] at TU
    simp only [(legal_iff s).2 k] at TL
    clear e1 e2 k
    replace TU := Lib.hid TU
    replace TL := Lib.hid TL
    by_cases f : unpE n.toNat = 0
    · skip
      obtain ⟨q1, q2⟩ := unp_back f
      have TK := fun (V : World) => own14Legal (unpR n.toNat) V (legal_ok ((legal_iff _).1 q1))
      have TQ := fun (V : World) => own14Pack (unpR n.toNat) V (legal_ok ((legal_iff _).1 q1))
      simp only [q1] at TK
      simp only [q2] at TQ
      simp only [f] at TN
      generalize (unpR n.toNat).mode = u1 at *
      generalize (unpR n.toNat).armed = u2 at *
      generalize (unpR n.toNat).home = u3 at *
      generalize (unpR n.toNat).lat = u4 at *
      generalize (unpR n.toNat).lon = u5 at *
      generalize (unpR n.toNat).iso = u6 at *
      clear q1 q2 f
      replace TK := Lib.hid TK
      replace TQ := Lib.hid TQ
      replace TN := Lib.hid TN
      generalize packN s = P at *
      have hB : Below W.heap.size W (W.alloc (.cells #[.int .i64 s.mode, .bool s.armed, .bool s.home, .int .i64 s.lat, .int .i64 s.lon, .int .i64 s.iso] 23)) := ((Below.refl _ _).alloc (Nat.le_refl _) _)
      have xs := (Box.new 23 W [.int .i64 s.mode, .bool s.armed, .bool s.home, .int .i64 s.lat, .int .i64 s.lon, .int .i64 s.iso])
      go_enter Try.func4, Try.ntmps4
      obtain ⟨xs0, xsz0, xs1, xsz1, xs2, xsz2, xs3, xsz3, xs4, xsz4, xs5, xsz5⟩ := xs.f6
      go_wp2_with fail
      refine (TP.out _).mono ?_
      rintro e V1 ⟨rfl, hk⟩
      clear xs0 xsz0 xs1 xsz1 xs2 xsz2 xs3 xsz3 xs4 xsz4 xs5 xsz5
      replace hB := below_seq hB hk
      replace xs := xs.seq hk
      clear hk
      obtain ⟨xs0, xsz0, xs1, xsz1, xs2, xsz2, xs3, xsz3, xs4, xsz4, xs5, xsz5⟩ := xs.f6
      go_wp2_with fail
      refine (TU.out _).mono ?_
      rintro e V2 ⟨rfl, hk⟩
      clear xs0 xsz0 xs1 xsz1 xs2 xsz2 xs3 xsz3 xs4 xsz4 xs5 xsz5
      replace hB := below_seq hB hk
      replace xs := xs.seq hk
      clear hk
      have xt := Box.new 23 V2 [.int .i64 s.mode, .bool s.armed, .bool s.home, .int .i64 s.lat, .int .i64 s.lon, .int .i64 s.iso]
      have ne_xt_xs : V2.heap.size ≠ W.heap.size := Nat.ne_of_gt xs.lt
      have le_xt : W.heap.size ≤ V2.heap.size := hB.size
      replace xs := xs.alloc (.cells #[.int .i64 s.mode, .bool s.armed, .bool s.home, .int .i64 s.lat, .int .i64 s.lon, .int .i64 s.iso] 23)
      replace hB := hB.alloc hB.size (.cells #[.int .i64 s.mode, .bool s.armed, .bool s.home, .int .i64 s.lat, .int .i64 s.lon, .int .i64 s.iso] 23)
      obtain ⟨xs0, xsz0, xs1, xsz1, xs2, xsz2, xs3, xsz3, xs4, xsz4, xs5, xsz5⟩ := xs.f6
      obtain ⟨xt0, xtz0, xt1, xtz1, xt2, xtz2, xt3, xtz3, xt4, xtz4, xt5, xtz5⟩ := xt.f6
      go_wp2_with fail
      refine (TL.out _).mono ?_
      rintro e V3 ⟨rfl, hk⟩
      clear xs0 xsz0 xs1 xsz1 xs2 xsz2 xs3 xsz3 xs4 xsz4 xs5 xsz5 xt0 xtz0 xt1 xtz1 xt2 xtz2 xt3 xtz3 xt4 xtz4 xt5 xtz5
      replace hB := below_seq hB hk
      replace xs := xs.seq hk
      replace xt := xt.seq hk
      clear hk
      obtain ⟨xs0, xsz0, xs1, xsz1, xs2, xsz2, xs3, xsz3, xs4, xsz4, xs5, xsz5⟩ := xs.f6
      obtain ⟨xt0, xtz0, xt1, xtz1, xt2, xtz2, xt3, xtz3, xt4, xtz4, xt5, xtz5⟩ := xt.f6
      go_wp2_with fail
      refine (TN.out _).mono ?_
      rintro e V4 ⟨rfl, hk⟩
      clear xs0 xsz0 xs1 xsz1 xs2 xsz2 xs3 xsz3 xs4 xsz4 xs5 xsz5 xt0 xtz0 xt1 xtz1 xt2 xtz2 xt3 xtz3 xt4 xtz4 xt5 xtz5
      replace hB := below_seq hB hk
      replace xs := xs.seq hk
      replace xt := xt.seq hk
      clear hk
      have xu := Box.new 23 V4 [.int .i64 u1, .bool u2, .bool u3, .int .i64 u4, .int .i64 u5, .int .i64 u6]
      have ne_xu_xs : V4.heap.size ≠ W.heap.size := Nat.ne_of_gt xs.lt
      have ne_xu_xt : V4.heap.size ≠ V2.heap.size := Nat.ne_of_gt xt.lt
      have le_xu : W.heap.size ≤ V4.heap.size := hB.size
      replace xs := xs.alloc (.cells #[.int .i64 u1, .bool u2, .bool u3, .int .i64 u4, .int .i64 u5, .int .i64 u6] 23)
      replace xt := xt.alloc (.cells #[.int .i64 u1, .bool u2, .bool u3, .int .i64 u4, .int .i64 u5, .int .i64 u6] 23)
      replace hB := hB.alloc hB.size (.cells #[.int .i64 u1, .bool u2, .bool u3, .int .i64 u4, .int .i64 u5, .int .i64 u6] 23)
      obtain ⟨xs0, xsz0, xs1, xsz1, xs2, xsz2, xs3, xsz3, xs4, xsz4, xs5, xsz5⟩ := xs.f6
      obtain ⟨xt0, xtz0, xt1, xtz1, xt2, xtz2, xt3, xtz3, xt4, xtz4, xt5, xtz5⟩ := xt.f6
      obtain ⟨xu0, xuz0, xu1, xuz1, xu2, xuz2, xu3, xuz3, xu4, xuz4, xu5, xuz5⟩ := xu.f6
      go_wp2_with fail
      refine (TK.out _).mono ?_
      rintro e V5 ⟨rfl, hk⟩
      clear xs0 xsz0 xs1 xsz1 xs2 xsz2 xs3 xsz3 xs4 xsz4 xs5 xsz5 xt0 xtz0 xt1 xtz1 xt2 xtz2 xt3 xtz3 xt4 xtz4 xt5 xtz5 xu0 xuz0 xu1 xuz1 xu2 xuz2 xu3 xuz3 xu4 xuz4 xu5 xuz5
      replace hB := below_seq hB hk
      replace xs := xs.seq hk
      replace xt := xt.seq hk
      replace xu := xu.seq hk
      clear hk
      obtain ⟨xs0, xsz0, xs1, xsz1, xs2, xsz2, xs3, xsz3, xs4, xsz4, xs5, xsz5⟩ := xs.f6
      obtain ⟨xt0, xtz0, xt1, xtz1, xt2, xtz2, xt3, xtz3, xt4, xtz4, xt5, xtz5⟩ := xt.f6
      obtain ⟨xu0, xuz0, xu1, xuz1, xu2, xuz2, xu3, xuz3, xu4, xuz4, xu5, xuz5⟩ := xu.f6
      go_wp2_with fail
      refine (TQ.out _).mono ?_
      rintro e V6 ⟨rfl, hk⟩
      clear xs0 xsz0 xs1 xsz1 xs2 xsz2 xs3 xsz3 xs4 xsz4 xs5 xsz5 xt0 xtz0 xt1 xtz1 xt2 xtz2 xt3 xtz3 xt4 xtz4 xt5 xtz5 xu0 xuz0 xu1 xuz1 xu2 xuz2 xu3 xuz3 xu4 xuz4 xu5 xuz5
      replace hB := below_seq hB hk
      replace xs := xs.seq hk
      replace xt := xt.seq hk
      replace xu := xu.seq hk
      clear hk
      obtain ⟨xs0, xsz0, xs1, xsz1, xs2, xsz2, xs3, xsz3, xs4, xsz4, xs5, xsz5⟩ := xs.f6
      obtain ⟨xt0, xtz0, xt1, xtz1, xt2, xtz2, xt3, xtz3, xt4, xtz4, xt5, xtz5⟩ := xt.f6
      obtain ⟨xu0, xuz0, xu1, xuz1, xu2, xuz2, xu3, xuz3, xu4, xuz4, xu5, xuz5⟩ := xu.f6
      go_wp2_with fail
      refine (shown14 _).mono ?_
      rintro e V7 ⟨rfl, hk⟩
      clear xs0 xsz0 xs1 xsz1 xs2 xsz2 xs3 xsz3 xs4 xsz4 xs5 xsz5 xt0 xtz0 xt1 xtz1 xt2 xtz2 xt3 xtz3 xt4 xtz4 xt5 xtz5 xu0 xuz0 xu1 xuz1 xu2 xuz2 xu3 xuz3 xu4 xuz4 xu5 xuz5
      replace hB := below_seq hB hk
      replace xs := xs.seq hk
      replace xt := xt.seq hk
      replace xu := xu.seq hk
      clear hk
      obtain ⟨xs0, xsz0, xs1, xsz1, xs2, xsz2, xs3, xsz3, xs4, xsz4, xs5, xsz5⟩ := xs.f6
      obtain ⟨xt0, xtz0, xt1, xtz1, xt2, xtz2, xt3, xtz3, xt4, xtz4, xt5, xtz5⟩ := xt.f6
      obtain ⟨xu0, xuz0, xu1, xuz1, xu2, xuz2, xu3, xuz3, xu4, xuz4, xu5, xuz5⟩ := xu.f6
      go_wp2
      go_ret
      exact ⟨rfl, hB⟩
    · skip
      obtain ⟨z1, z2⟩ := unp_none f
      simp only [z1, z2, St.zero] at TN
      replace TN := Lib.hid TN
      clear z1 z2 f
      generalize packN s = P at *
      have hB : Below W.heap.size W (W.alloc (.cells #[.int .i64 s.mode, .bool s.armed, .bool s.home, .int .i64 s.lat, .int .i64 s.lon, .int .i64 s.iso] 23)) := ((Below.refl _ _).alloc (Nat.le_refl _) _)
      have xs := (Box.new 23 W [.int .i64 s.mode, .bool s.armed, .bool s.home, .int .i64 s.lat, .int .i64 s.lon, .int .i64 s.iso])
      go_enter Try.func4, Try.ntmps4
      obtain ⟨xs0, xsz0, xs1, xsz1, xs2, xsz2, xs3, xsz3, xs4, xsz4, xs5, xsz5⟩ := xs.f6
      go_wp2_with fail
      refine (TP.out _).mono ?_
      rintro e V1 ⟨rfl, hk⟩
      clear xs0 xsz0 xs1 xsz1 xs2 xsz2 xs3 xsz3 xs4 xsz4 xs5 xsz5
      replace hB := below_seq hB hk
      replace xs := xs.seq hk
      clear hk
      obtain ⟨xs0, xsz0, xs1, xsz1, xs2, xsz2, xs3, xsz3, xs4, xsz4, xs5, xsz5⟩ := xs.f6
      go_wp2_with fail
      refine (TU.out _).mono ?_
      rintro e V2 ⟨rfl, hk⟩
      clear xs0 xsz0 xs1 xsz1 xs2 xsz2 xs3 xsz3 xs4 xsz4 xs5 xsz5
      replace hB := below_seq hB hk
      replace xs := xs.seq hk
      clear hk
      have xt := Box.new 23 V2 [.int .i64 s.mode, .bool s.armed, .bool s.home, .int .i64 s.lat, .int .i64 s.lon, .int .i64 s.iso]
      have ne_xt_xs : V2.heap.size ≠ W.heap.size := Nat.ne_of_gt xs.lt
      have le_xt : W.heap.size ≤ V2.heap.size := hB.size
      replace xs := xs.alloc (.cells #[.int .i64 s.mode, .bool s.armed, .bool s.home, .int .i64 s.lat, .int .i64 s.lon, .int .i64 s.iso] 23)
      replace hB := hB.alloc hB.size (.cells #[.int .i64 s.mode, .bool s.armed, .bool s.home, .int .i64 s.lat, .int .i64 s.lon, .int .i64 s.iso] 23)
      obtain ⟨xs0, xsz0, xs1, xsz1, xs2, xsz2, xs3, xsz3, xs4, xsz4, xs5, xsz5⟩ := xs.f6
      obtain ⟨xt0, xtz0, xt1, xtz1, xt2, xtz2, xt3, xtz3, xt4, xtz4, xt5, xtz5⟩ := xt.f6
      go_wp2_with fail
      refine (TL.out _).mono ?_
      rintro e V3 ⟨rfl, hk⟩
      clear xs0 xsz0 xs1 xsz1 xs2 xsz2 xs3 xsz3 xs4 xsz4 xs5 xsz5 xt0 xtz0 xt1 xtz1 xt2 xtz2 xt3 xtz3 xt4 xtz4 xt5 xtz5
      replace hB := below_seq hB hk
      replace xs := xs.seq hk
      replace xt := xt.seq hk
      clear hk
      obtain ⟨xs0, xsz0, xs1, xsz1, xs2, xsz2, xs3, xsz3, xs4, xsz4, xs5, xsz5⟩ := xs.f6
      obtain ⟨xt0, xtz0, xt1, xtz1, xt2, xtz2, xt3, xtz3, xt4, xtz4, xt5, xtz5⟩ := xt.f6
      go_wp2_with fail
      refine (TN.out _).mono ?_
      rintro e V4 ⟨rfl, hk⟩
      clear xs0 xsz0 xs1 xsz1 xs2 xsz2 xs3 xsz3 xs4 xsz4 xs5 xsz5 xt0 xtz0 xt1 xtz1 xt2 xtz2 xt3 xtz3 xt4 xtz4 xt5 xtz5
      replace hB := below_seq hB hk
      replace xs := xs.seq hk
      replace xt := xt.seq hk
      clear hk
      have xu := Box.new 23 V4 [.int .i64 0, .bool false, .bool false, .int .i64 0, .int .i64 0, .int .i64 0]
      have ne_xu_xs : V4.heap.size ≠ W.heap.size := Nat.ne_of_gt xs.lt
      have ne_xu_xt : V4.heap.size ≠ V2.heap.size := Nat.ne_of_gt xt.lt
      have le_xu : W.heap.size ≤ V4.heap.size := hB.size
      replace xs := xs.alloc (.cells #[.int .i64 0, .bool false, .bool false, .int .i64 0, .int .i64 0, .int .i64 0] 23)
      replace xt := xt.alloc (.cells #[.int .i64 0, .bool false, .bool false, .int .i64 0, .int .i64 0, .int .i64 0] 23)
      replace hB := hB.alloc hB.size (.cells #[.int .i64 0, .bool false, .bool false, .int .i64 0, .int .i64 0, .int .i64 0] 23)
      obtain ⟨xs0, xsz0, xs1, xsz1, xs2, xsz2, xs3, xsz3, xs4, xsz4, xs5, xsz5⟩ := xs.f6
      obtain ⟨xt0, xtz0, xt1, xtz1, xt2, xtz2, xt3, xtz3, xt4, xtz4, xt5, xtz5⟩ := xt.f6
      obtain ⟨xu0, xuz0, xu1, xuz1, xu2, xuz2, xu3, xuz3, xu4, xuz4, xu5, xuz5⟩ := xu.f6
      go_wp2_with fail
      refine (shown14 _).mono ?_
      rintro e V5 ⟨rfl, hk⟩
      clear xs0 xsz0 xs1 xsz1 xs2 xsz2 xs3 xsz3 xs4 xsz4 xs5 xsz5 xt0 xtz0 xt1 xtz1 xt2 xtz2 xt3 xtz3 xt4 xtz4 xt5 xtz5 xu0 xuz0 xu1 xuz1 xu2 xuz2 xu3 xuz3 xu4 xuz4 xu5 xuz5
      replace hB := below_seq hB hk
      replace xs := xs.seq hk
      replace xt := xt.seq hk
      replace xu := xu.seq hk
      clear hk
      obtain ⟨xs0, xsz0, xs1, xsz1, xs2, xsz2, xs3, xsz3, xs4, xsz4, xs5, xsz5⟩ := xs.f6
      obtain ⟨xt0, xtz0, xt1, xtz1, xt2, xtz2, xt3, xtz3, xt4, xtz4, xt5, xtz5⟩ := xt.f6
      obtain ⟨xu0, xuz0, xu1, xuz1, xu2, xuz2, xu3, xuz3, xu4, xuz4, xu5, xuz5⟩ := xu.f6
      go_wp2
      go_ret
      exact ⟨rfl, hB⟩
  · have nl : legalB s = false := by { cases c : legalB s; rfl; exact absurd ((legal_iff s).1 c) k }
    simp only [nl] at TL
    clear nl k
    generalize (unpR (packN s)).mode = r1 at *
    generalize (unpR (packN s)).armed = r2 at *
    generalize (unpR (packN s)).home = r3 at *
    generalize (unpR (packN s)).lat = r4 at *
    generalize (unpR (packN s)).lon = r5 at *
    generalize (unpR (packN s)).iso = r6 at *
    generalize unpE (packN s) = E0 at *
    replace TU := Lib.hid TU
    replace TL := Lib.hid TL
    by_cases f : unpE n.toNat = 0
    · skip
      obtain ⟨q1, q2⟩ := unp_back f
      have TK := fun (V : World) => own14Legal (unpR n.toNat) V (legal_ok ((legal_iff _).1 q1))
      have TQ := fun (V : World) => own14Pack (unpR n.toNat) V (legal_ok ((legal_iff _).1 q1))
      simp only [q1] at TK
      simp only [q2] at TQ
      simp only [f] at TN
      generalize (unpR n.toNat).mode = u1 at *
      generalize (unpR n.toNat).armed = u2 at *
      generalize (unpR n.toNat).home = u3 at *
      generalize (unpR n.toNat).lat = u4 at *
      generalize (unpR n.toNat).lon = u5 at *
      generalize (unpR n.toNat).iso = u6 at *
      clear q1 q2 f
      replace TK := Lib.hid TK
      replace TQ := Lib.hid TQ
      replace TN := Lib.hid TN
      generalize packN s = P at *
      have hB : Below W.heap.size W (W.alloc (.cells #[.int .i64 s.mode, .bool s.armed, .bool s.home, .int .i64 s.lat, .int .i64 s.lon, .int .i64 s.iso] 23)) := ((Below.refl _ _).alloc (Nat.le_refl _) _)
      have xs := (Box.new 23 W [.int .i64 s.mode, .bool s.armed, .bool s.home, .int .i64 s.lat, .int .i64 s.lon, .int .i64 s.iso])
      go_enter Try.func4, Try.ntmps4
      obtain ⟨xs0, xsz0, xs1, xsz1, xs2, xsz2, xs3, xsz3, xs4, xsz4, xs5, xsz5⟩ := xs.f6
      go_wp2_with fail
      refine (TP.out _).mono ?_
      rintro e V1 ⟨rfl, hk⟩
      clear xs0 xsz0 xs1 xsz1 xs2 xsz2 xs3 xsz3 xs4 xsz4 xs5 xsz5
      replace hB := below_seq hB hk
      replace xs := xs.seq hk
      clear hk
      obtain ⟨xs0, xsz0, xs1, xsz1, xs2, xsz2, xs3, xsz3, xs4, xsz4, xs5, xsz5⟩ := xs.f6
      go_wp2_with fail
      refine (TU.out _).mono ?_
      rintro e V2 ⟨rfl, hk⟩
      clear xs0 xsz0 xs1 xsz1 xs2 xsz2 xs3 xsz3 xs4 xsz4 xs5 xsz5
      replace hB := below_seq hB hk
      replace xs := xs.seq hk
      clear hk
      have xt := Box.new 23 V2 [.int .i64 r1, .bool r2, .bool r3, .int .i64 r4, .int .i64 r5, .int .i64 r6]
      have ne_xt_xs : V2.heap.size ≠ W.heap.size := Nat.ne_of_gt xs.lt
      have le_xt : W.heap.size ≤ V2.heap.size := hB.size
      replace xs := xs.alloc (.cells #[.int .i64 r1, .bool r2, .bool r3, .int .i64 r4, .int .i64 r5, .int .i64 r6] 23)
      replace hB := hB.alloc hB.size (.cells #[.int .i64 r1, .bool r2, .bool r3, .int .i64 r4, .int .i64 r5, .int .i64 r6] 23)
      obtain ⟨xs0, xsz0, xs1, xsz1, xs2, xsz2, xs3, xsz3, xs4, xsz4, xs5, xsz5⟩ := xs.f6
      obtain ⟨xt0, xtz0, xt1, xtz1, xt2, xtz2, xt3, xtz3, xt4, xtz4, xt5, xtz5⟩ := xt.f6
      go_wp2_with fail
      refine (TL.out _).mono ?_
      rintro e V3 ⟨rfl, hk⟩
      clear xs0 xsz0 xs1 xsz1 xs2 xsz2 xs3 xsz3 xs4 xsz4 xs5 xsz5 xt0 xtz0 xt1 xtz1 xt2 xtz2 xt3 xtz3 xt4 xtz4 xt5 xtz5
      replace hB := below_seq hB hk
      replace xs := xs.seq hk
      replace xt := xt.seq hk
      clear hk
      obtain ⟨xs0, xsz0, xs1, xsz1, xs2, xsz2, xs3, xsz3, xs4, xsz4, xs5, xsz5⟩ := xs.f6
      obtain ⟨xt0, xtz0, xt1, xtz1, xt2, xtz2, xt3, xtz3, xt4, xtz4, xt5, xtz5⟩ := xt.f6
      go_wp2_with fail
      refine (TN.out _).mono ?_
      rintro e V4 ⟨rfl, hk⟩
      clear xs0 xsz0 xs1 xsz1 xs2 xsz2 xs3 xsz3 xs4 xsz4 xs5 xsz5 xt0 xtz0 xt1 xtz1 xt2 xtz2 xt3 xtz3 xt4 xtz4 xt5 xtz5
      replace hB := below_seq hB hk
      replace xs := xs.seq hk
      replace xt := xt.seq hk
      clear hk
      have xu := Box.new 23 V4 [.int .i64 u1, .bool u2, .bool u3, .int .i64 u4, .int .i64 u5, .int .i64 u6]
      have ne_xu_xs : V4.heap.size ≠ W.heap.size := Nat.ne_of_gt xs.lt
      have ne_xu_xt : V4.heap.size ≠ V2.heap.size := Nat.ne_of_gt xt.lt
      have le_xu : W.heap.size ≤ V4.heap.size := hB.size
      replace xs := xs.alloc (.cells #[.int .i64 u1, .bool u2, .bool u3, .int .i64 u4, .int .i64 u5, .int .i64 u6] 23)
      replace xt := xt.alloc (.cells #[.int .i64 u1, .bool u2, .bool u3, .int .i64 u4, .int .i64 u5, .int .i64 u6] 23)
      replace hB := hB.alloc hB.size (.cells #[.int .i64 u1, .bool u2, .bool u3, .int .i64 u4, .int .i64 u5, .int .i64 u6] 23)
      obtain ⟨xs0, xsz0, xs1, xsz1, xs2, xsz2, xs3, xsz3, xs4, xsz4, xs5, xsz5⟩ := xs.f6
      obtain ⟨xt0, xtz0, xt1, xtz1, xt2, xtz2, xt3, xtz3, xt4, xtz4, xt5, xtz5⟩ := xt.f6
      obtain ⟨xu0, xuz0, xu1, xuz1, xu2, xuz2, xu3, xuz3, xu4, xuz4, xu5, xuz5⟩ := xu.f6
      go_wp2_with fail
      refine (TK.out _).mono ?_
      rintro e V5 ⟨rfl, hk⟩
      clear xs0 xsz0 xs1 xsz1 xs2 xsz2 xs3 xsz3 xs4 xsz4 xs5 xsz5 xt0 xtz0 xt1 xtz1 xt2 xtz2 xt3 xtz3 xt4 xtz4 xt5 xtz5 xu0 xuz0 xu1 xuz1 xu2 xuz2 xu3 xuz3 xu4 xuz4 xu5 xuz5
      replace hB := below_seq hB hk
      replace xs := xs.seq hk
      replace xt := xt.seq hk
      replace xu := xu.seq hk
      clear hk
      obtain ⟨xs0, xsz0, xs1, xsz1, xs2, xsz2, xs3, xsz3, xs4, xsz4, xs5, xsz5⟩ := xs.f6
      obtain ⟨xt0, xtz0, xt1, xtz1, xt2, xtz2, xt3, xtz3, xt4, xtz4, xt5, xtz5⟩ := xt.f6
      obtain ⟨xu0, xuz0, xu1, xuz1, xu2, xuz2, xu3, xuz3, xu4, xuz4, xu5, xuz5⟩ := xu.f6
      go_wp2_with fail
      refine (TQ.out _).mono ?_
      rintro e V6 ⟨rfl, hk⟩
      clear xs0 xsz0 xs1 xsz1 xs2 xsz2 xs3 xsz3 xs4 xsz4 xs5 xsz5 xt0 xtz0 xt1 xtz1 xt2 xtz2 xt3 xtz3 xt4 xtz4 xt5 xtz5 xu0 xuz0 xu1 xuz1 xu2 xuz2 xu3 xuz3 xu4 xuz4 xu5 xuz5
      replace hB := below_seq hB hk
      replace xs := xs.seq hk
      replace xt := xt.seq hk
      replace xu := xu.seq hk
      clear hk
      obtain ⟨xs0, xsz0, xs1, xsz1, xs2, xsz2, xs3, xsz3, xs4, xsz4, xs5, xsz5⟩ := xs.f6
      obtain ⟨xt0, xtz0, xt1, xtz1, xt2, xtz2, xt3, xtz3, xt4, xtz4, xt5, xtz5⟩ := xt.f6
      obtain ⟨xu0, xuz0, xu1, xuz1, xu2, xuz2, xu3, xuz3, xu4, xuz4, xu5, xuz5⟩ := xu.f6
      go_wp2_with fail
      refine (shown14 _).mono ?_
      rintro e V7 ⟨rfl, hk⟩
      clear xs0 xsz0 xs1 xsz1 xs2 xsz2 xs3 xsz3 xs4 xsz4 xs5 xsz5 xt0 xtz0 xt1 xtz1 xt2 xtz2 xt3 xtz3 xt4 xtz4 xt5 xtz5 xu0 xuz0 xu1 xuz1 xu2 xuz2 xu3 xuz3 xu4 xuz4 xu5 xuz5
      replace hB := below_seq hB hk
      replace xs := xs.seq hk
      replace xt := xt.seq hk
      replace xu := xu.seq hk
      clear hk
      obtain ⟨xs0, xsz0, xs1, xsz1, xs2, xsz2, xs3, xsz3, xs4, xsz4, xs5, xsz5⟩ := xs.f6
      obtain ⟨xt0, xtz0, xt1, xtz1, xt2, xtz2, xt3, xtz3, xt4, xtz4, xt5, xtz5⟩ := xt.f6
      obtain ⟨xu0, xuz0, xu1, xuz1, xu2, xuz2, xu3, xuz3, xu4, xuz4, xu5, xuz5⟩ := xu.f6
      go_wp2
      go_ret
      exact ⟨rfl, hB⟩
    · skip
      obtain ⟨z1, z2⟩ := unp_none f
      simp only [z1, z2, St.zero] at TN
      replace TN := Lib.hid TN
      clear z1 z2 f
      generalize packN s = P at *
      have hB : Below W.heap.size W (W.alloc (.cells #[.int .i64 s.mode, .bool s.armed, .bool s.home, .int .i64 s.lat, .int .i64 s.lon, .int .i64 s.iso] 23)) := ((Below.refl _ _).alloc (Nat.le_refl _) _)
      have xs := (Box.new 23 W [.int .i64 s.mode, .bool s.armed, .bool s.home, .int .i64 s.lat, .int .i64 s.lon, .int .i64 s.iso])
      go_enter Try.func4, Try.ntmps4
      obtain ⟨xs0, xsz0, xs1, xsz1, xs2, xsz2, xs3, xsz3, xs4, xsz4, xs5, xsz5⟩ := xs.f6
      go_wp2_with fail
      refine (TP.out _).mono ?_
      rintro e V1 ⟨rfl, hk⟩
      clear xs0 xsz0 xs1 xsz1 xs2 xsz2 xs3 xsz3 xs4 xsz4 xs5 xsz5
      replace hB := below_seq hB hk
      replace xs := xs.seq hk
      clear hk
      obtain ⟨xs0, xsz0, xs1, xsz1, xs2, xsz2, xs3, xsz3, xs4, xsz4, xs5, xsz5⟩ := xs.f6
      go_wp2_with fail
      refine (TU.out _).mono ?_
      rintro e V2 ⟨rfl, hk⟩
      clear xs0 xsz0 xs1 xsz1 xs2 xsz2 xs3 xsz3 xs4 xsz4 xs5 xsz5
      replace hB := below_seq hB hk
      replace xs := xs.seq hk
      clear hk
      have xt := Box.new 23 V2 [.int .i64 r1, .bool r2, .bool r3, .int .i64 r4, .int .i64 r5, .int .i64 r6]
      have ne_xt_xs : V2.heap.size ≠ W.heap.size := Nat.ne_of_gt xs.lt
      have le_xt : W.heap.size ≤ V2.heap.size := hB.size
      replace xs := xs.alloc (.cells #[.int .i64 r1, .bool r2, .bool r3, .int .i64 r4, .int .i64 r5, .int .i64 r6] 23)
      replace hB := hB.alloc hB.size (.cells #[.int .i64 r1, .bool r2, .bool r3, .int .i64 r4, .int .i64 r5, .int .i64 r6] 23)
      obtain ⟨xs0, xsz0, xs1, xsz1, xs2, xsz2, xs3, xsz3, xs4, xsz4, xs5, xsz5⟩ := xs.f6
      obtain ⟨xt0, xtz0, xt1, xtz1, xt2, xtz2, xt3, xtz3, xt4, xtz4, xt5, xtz5⟩ := xt.f6
      go_wp2_with fail
      refine (TL.out _).mono ?_
      rintro e V3 ⟨rfl, hk⟩
      clear xs0 xsz0 xs1 xsz1 xs2 xsz2 xs3 xsz3 xs4 xsz4 xs5 xsz5 xt0 xtz0 xt1 xtz1 xt2 xtz2 xt3 xtz3 xt4 xtz4 xt5 xtz5
      replace hB := below_seq hB hk
      replace xs := xs.seq hk
      replace xt := xt.seq hk
      clear hk
      obtain ⟨xs0, xsz0, xs1, xsz1, xs2, xsz2, xs3, xsz3, xs4, xsz4, xs5, xsz5⟩ := xs.f6
      obtain ⟨xt0, xtz0, xt1, xtz1, xt2, xtz2, xt3, xtz3, xt4, xtz4, xt5, xtz5⟩ := xt.f6
      go_wp2_with fail
      refine (TN.out _).mono ?_
      rintro e V4 ⟨rfl, hk⟩
      clear xs0 xsz0 xs1 xsz1 xs2 xsz2 xs3 xsz3 xs4 xsz4 xs5 xsz5 xt0 xtz0 xt1 xtz1 xt2 xtz2 xt3 xtz3 xt4 xtz4 xt5 xtz5
      replace hB := below_seq hB hk
      replace xs := xs.seq hk
      replace xt := xt.seq hk
      clear hk
      have xu := Box.new 23 V4 [.int .i64 0, .bool false, .bool false, .int .i64 0, .int .i64 0, .int .i64 0]
      have ne_xu_xs : V4.heap.size ≠ W.heap.size := Nat.ne_of_gt xs.lt
      have ne_xu_xt : V4.heap.size ≠ V2.heap.size := Nat.ne_of_gt xt.lt
      have le_xu : W.heap.size ≤ V4.heap.size := hB.size
      replace xs := xs.alloc (.cells #[.int .i64 0, .bool false, .bool false, .int .i64 0, .int .i64 0, .int .i64 0] 23)
      replace xt := xt.alloc (.cells #[.int .i64 0, .bool false, .bool false, .int .i64 0, .int .i64 0, .int .i64 0] 23)
      replace hB := hB.alloc hB.size (.cells #[.int .i64 0, .bool false, .bool false, .int .i64 0, .int .i64 0, .int .i64 0] 23)
      obtain ⟨xs0, xsz0, xs1, xsz1, xs2, xsz2, xs3, xsz3, xs4, xsz4, xs5, xsz5⟩ := xs.f6
      obtain ⟨xt0, xtz0, xt1, xtz1, xt2, xtz2, xt3, xtz3, xt4, xtz4, xt5, xtz5⟩ := xt.f6
      obtain ⟨xu0, xuz0, xu1, xuz1, xu2, xuz2, xu3, xuz3, xu4, xuz4, xu5, xuz5⟩ := xu.f6
      go_wp2_with fail
      refine (shown14 _).mono ?_
      rintro e V5 ⟨rfl, hk⟩
      clear xs0 xsz0 xs1 xsz1 xs2 xsz2 xs3 xsz3 xs4 xsz4 xs5 xsz5 xt0 xtz0 xt1 xtz1 xt2 xtz2 xt3 xtz3 xt4 xtz4 xt5 xtz5 xu0 xuz0 xu1 xuz1 xu2 xuz2 xu3 xuz3 xu4 xuz4 xu5 xuz5
      replace hB := below_seq hB hk
      replace xs := xs.seq hk
      replace xt := xt.seq hk
      replace xu := xu.seq hk
      clear hk
      obtain ⟨xs0, xsz0, xs1, xsz1, xs2, xsz2, xs3, xsz3, xs4, xsz4, xs5, xsz5⟩ := xs.f6
      obtain ⟨xt0, xtz0, xt1, xtz1, xt2, xtz2, xt3, xtz3, xt4, xtz4, xt5, xtz5⟩ := xt.f6
      obtain ⟨xu0, xuz0, xu1, xuz1, xu2, xuz2, xu3, xuz3, xu4, xuz4, xu5, xuz5⟩ := xu.f6
      go_wp2
      go_ret
      exact ⟨rfl, hB⟩

theorem own : ownKnob Try.prog.godebug = none := by kernel_rfl

set_option maxRecDepth 100000 in
theorem lifted (os : Os) (started : os.Started) (H : Type) (enc : TypeId × Value → H) :
    ReturnsInHanded {} Try.checked os 4 .any (Rows.stateBackSpec.pre6 enc Try.prog Try.f4 Rows.stateBackRow.domain false) (Rows.stateBackSpec.post enc Try.prog Try.f4 false true false false) := by
  refine returnsInHanded_of_change (C := Try.checked) own started (by kernel_rfl) Try.func4
    (ChangeSpec.witness6 (enc := enc) (C := Try.checked) false ⟨#[], #[.agg #[.int .i64 0, .bool false, .bool false, .int .i64 0, .int .i64 0, .int .i64 0], .int .u64 0], []⟩ 8 (by kernel_rfl) (by kernel_rfl) (by kernel_rfl) (by kernel_rfl)) ?_
  intro W base args ds gs before hval hW _ _
  have hW' := hW
  obtain ⟨p, q, hA0, hV, rfl, hfz, hnd⟩ := hW
  have hA : DataW.TrodAll enc Try.prog W 0 (fun _ => true) true Try.f4.params.toList args.toList ds p := hA0
  rw [Try.params4] at hA hval
  obtain ⟨v0, vs0, d0, ds0, p0, q0, hargs, rfl, rfl, h0, r0⟩ := trodAll_cons hA
  obtain ⟨v1, vs1, d1, ds1, p1, q1, rfl, rfl, rfl, h1, r1⟩ := trodAll_cons r0
  obtain ⟨rfl, rfl, rfl⟩ := trodAll_nil r1
  obtain rfl : args = #[v0, v1] := by cases args; simp_all
  obtain ⟨rfl, rfl⟩ := trodVars_none hV
  have k0 := h0
  obtain ⟨s0, rfl, hs0⟩ := open_st (hval 0 23 v0 rfl rfl) h0
  obtain ⟨a1, rfl, rfl, rfl, w1⟩ := open_int Try.underlying24 (hval 1 24 v1 rfl rfl) h1
  obtain ⟨c1, rfl⟩ := int_u64 w1
  clear hA0
  simp only [List.append_nil] at hW'
  refine (walk s0 c1 W hs0).mono fun e W' ⟨he, hB⟩ => ?_
  subst he
  exact ⟨_, rfl, ⟨_, _, _, [], _, [], hW', trodAll_cons_mk (shut_bool Try.underlying4 _) trodAll_mk0, (trodAll_cons_mk (Below.trod Try.laidOut (by kernel_rfl) (of_decide_eq_true (by kernel_rfl)) k0 hB (fun x hx => by simpa using hW'.lt x (by simp [hx]))) (trodAll_cons_mk (shut_int Try.underlying24 w1) trodAll_mk0)), rfl, hB.frame _, fun h => by cases h⟩⟩

theorem holds : Rows.StateBackSaid :=
  OpenClaim.holds_of_wide 4 Try.f4 rfl rfl rfl rfl rfl rfl rfl ⟨rfl, rfl, rfl, rfl, rfl⟩ rfl rfl rfl rfl rfl (by kernel_rfl) Try.func4 (by kernel_rfl)
    (of_decide_eq_true (by kernel_rfl)) (by unfold Func.isWrapper; first | (rw [if_pos (by decide +kernel)]; kernel_rfl) | (rw [if_neg (by decide +kernel)]; exact ⟨rfl, rfl⟩))
    (fun os started H enc _ => lifted os started H enc)
end Go.Proofs.Ytkdadjojahfmeaa.StateBack

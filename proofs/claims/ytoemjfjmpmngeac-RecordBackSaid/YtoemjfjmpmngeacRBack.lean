/- A record of a known kind is decoded back; bytes that are decoded are that record's (RecordBack); no condition. -/
import Derived.Test.YtoemjfjmpmngeacRecLaw
import Derived.Deep.RegionHeld3
import Derived.WalkLawsBesides
import Derived.WalkSpells
import Derived.IntWalk
import Derived.Lib.Hide
import Derived.Test.YtoemjfjmpmngeacBox
import Derived.ProofKit
import Derived.OpenShut
import Derived.ChangeMaps5
import Derived.Test.YtoemjfjmpmngeacInts
namespace Go.Proofs.Ytoemjfjmpmngeac.RecordBack
open Go.ChangeShapes Go.WideShapes Go.ChangeAt Go.RowKit Go.ChangeMaps
set_option linter.unusedVariables false
set_option linter.unusedSimpArgs false

set_option maxRecDepth 100000 in
set_option maxHeartbeats 16000000 in
theorem walk (r : Rec) (s : ByteArray) (W : World) (hr : r.ok) (hs : s.size ≤ maxLen) :
    Calls Try.prog 11 #[.agg #[.int .i64 r.kind, .int .u64 (r.seq : Int), .int .u64 (r.data : Int)], .string s] W fun e W' => e = .returned (.bool true) ∧ Below W.heap.size W W' := by
  by_cases hbig : 100 < s.size
  · have hb1 : (s.size : Int) > 100 := by omega
    have hB : Below W.heap.size W (W.alloc (.cells #[.int .i64 r.kind, .int .u64 (r.seq : Int), .int .u64 (r.data : Int)] 36)) := ((Below.refl _ _).alloc (Nat.le_refl _) _)
    have xr := (Box.new 36 W [.int .i64 r.kind, .int .u64 (r.seq : Int), .int .u64 (r.data : Int)])
    go_enter Try.func11, Try.ntmps11
    go_wp2_with fail
    refine (shown07 _).mono ?_
    rintro e V1 ⟨rfl, hk⟩
    replace hB := below_seq hB hk
    replace xr := xr.seq hk
    clear hk
    have xr0 := xr.cell 0 rfl
    have xrz0 := xr.frozen 0
    have xr1 := xr.cell 1 rfl
    have xrz1 := xr.frozen 1
    have xr2 := xr.cell 2 rfl
    have xrz2 := xr.frozen 2
    go_wp2
    go_ret
    exact ⟨rfl, hB⟩
  · have hb1 : ¬ (s.size : Int) > 100 := by omega
    have hz : (bs (encL r)).size ≤ 140737488351232 := by rw [bs_size, encL_length]; decide
    have TE := Lib.hid (fun (W : World) => own07Encode r W hr)
    by_cases hF : decE (bl s) = 0
    · by_cases k1 : r.kind < 1
      · have c1 : ¬ r.kind ≥ 1 := by omega
        have TD := Lib.hid (fun (W : World) => own07Decode (bs (encL r)) W hz)
        generalize decR (bl (bs (encL r))) = x at *
        generalize decE (bl (bs (encL r))) = E1 at *
        clear hz
        generalize bs (encL r) = u at *
        have TS := Lib.hid (fun (W : World) => own07Decode s W (by omega))
        obtain ⟨q1, q2, q3⟩ := enc_decR hF
        have TY := Lib.hid (fun (W : World) => (show Calls Try.prog 26 #[.agg #[.int .i64 (decR (bl s)).kind, .int .u64 ((decR (bl s)).seq : Int), .int .u64 ((decR (bl s)).data : Int)]] W fun e W' => e = .returned (.string s) ∧ Below W.heap.size W W' from by have h := own07Encode (decR (bl s)) W q3; rwa [q1, bs_bl] at h))
        have n1 : (decE (bl s) != 0) = false := by rw [hF]; rfl
        clear q1 q2 q3 hF hr
        generalize decR (bl s) = y at *
        generalize decE (bl s) = F at *
        have hB : Below W.heap.size W (W.alloc (.cells #[.int .i64 r.kind, .int .u64 (r.seq : Int), .int .u64 (r.data : Int)] 36)) := ((Below.refl _ _).alloc (Nat.le_refl _) _)
        have xr := (Box.new 36 W [.int .i64 r.kind, .int .u64 (r.seq : Int), .int .u64 (r.data : Int)])
        go_enter Try.func11, Try.ntmps11
        go_wp2_with fail
        refine (shown07 _).mono ?_
        rintro e V1 ⟨rfl, hk⟩
        replace hB := below_seq hB hk
        replace xr := xr.seq hk
        clear hk
        have xr0 := xr.cell 0 rfl
        have xrz0 := xr.frozen 0
        have xr1 := xr.cell 1 rfl
        have xrz1 := xr.frozen 1
        have xr2 := xr.cell 2 rfl
        have xrz2 := xr.frozen 2
        go_wp2_with fail
        refine (TE.out _).mono ?_
        rintro e V2 ⟨rfl, hk⟩
        clear xr0 xrz0 xr1 xrz1 xr2 xrz2
        replace hB := below_seq hB hk
        replace xr := xr.seq hk
        clear hk
        have xr0 := xr.cell 0 rfl
        have xrz0 := xr.frozen 0
        have xr1 := xr.cell 1 rfl
        have xrz1 := xr.frozen 1
        have xr2 := xr.cell 2 rfl
        have xrz2 := xr.frozen 2
        go_wp2_with fail
        refine (TD.out _).mono ?_
        rintro e V3 ⟨rfl, hk⟩
        clear xr0 xrz0 xr1 xrz1 xr2 xrz2
        replace hB := below_seq hB hk
        replace xr := xr.seq hk
        clear hk
        have xx := Box.new 36 V3 [.int .i64 x.kind, .int .u64 (x.seq : Int), .int .u64 (x.data : Int)]
        have ne_xx_xr : V3.heap.size ≠ W.heap.size := Nat.ne_of_gt xr.lt
        have le_xx : W.heap.size ≤ V3.heap.size := hB.size
        replace xr := xr.alloc (.cells #[.int .i64 x.kind, .int .u64 (x.seq : Int), .int .u64 (x.data : Int)] 36)
        replace hB := hB.alloc hB.size (.cells #[.int .i64 x.kind, .int .u64 (x.seq : Int), .int .u64 (x.data : Int)] 36)
        have xr0 := xr.cell 0 rfl
        have xrz0 := xr.frozen 0
        have xr1 := xr.cell 1 rfl
        have xrz1 := xr.frozen 1
        have xr2 := xr.cell 2 rfl
        have xrz2 := xr.frozen 2
        have xx0 := xx.cell 0 rfl
        have xxz0 := xx.frozen 0
        have xx1 := xx.cell 1 rfl
        have xxz1 := xx.frozen 1
        have xx2 := xx.cell 2 rfl
        have xxz2 := xx.frozen 2
        go_wp2_with fail
        refine (TS.out _).mono ?_
        rintro e V4 ⟨rfl, hk⟩
        clear xr0 xrz0 xr1 xrz1 xr2 xrz2 xx0 xxz0 xx1 xxz1 xx2 xxz2
        replace hB := below_seq hB hk
        replace xr := xr.seq hk
        replace xx := xx.seq hk
        clear hk
        have xy := Box.new 36 V4 [.int .i64 y.kind, .int .u64 (y.seq : Int), .int .u64 (y.data : Int)]
        have ne_xy_xr : V4.heap.size ≠ W.heap.size := Nat.ne_of_gt xr.lt
        have ne_xy_xx : V4.heap.size ≠ V3.heap.size := Nat.ne_of_gt xx.lt
        have le_xy : W.heap.size ≤ V4.heap.size := hB.size
        replace xr := xr.alloc (.cells #[.int .i64 y.kind, .int .u64 (y.seq : Int), .int .u64 (y.data : Int)] 36)
        replace xx := xx.alloc (.cells #[.int .i64 y.kind, .int .u64 (y.seq : Int), .int .u64 (y.data : Int)] 36)
        replace hB := hB.alloc hB.size (.cells #[.int .i64 y.kind, .int .u64 (y.seq : Int), .int .u64 (y.data : Int)] 36)
        have xr0 := xr.cell 0 rfl
        have xrz0 := xr.frozen 0
        have xr1 := xr.cell 1 rfl
        have xrz1 := xr.frozen 1
        have xr2 := xr.cell 2 rfl
        have xrz2 := xr.frozen 2
        have xx0 := xx.cell 0 rfl
        have xxz0 := xx.frozen 0
        have xx1 := xx.cell 1 rfl
        have xxz1 := xx.frozen 1
        have xx2 := xx.cell 2 rfl
        have xxz2 := xx.frozen 2
        have xy0 := xy.cell 0 rfl
        have xyz0 := xy.frozen 0
        have xy1 := xy.cell 1 rfl
        have xyz1 := xy.frozen 1
        have xy2 := xy.cell 2 rfl
        have xyz2 := xy.frozen 2
        go_wp2_with fail
        refine (TY.out _).mono ?_
        rintro e V5 ⟨rfl, hk⟩
        clear xr0 xrz0 xr1 xrz1 xr2 xrz2 xx0 xxz0 xx1 xxz1 xx2 xxz2 xy0 xyz0 xy1 xyz1 xy2 xyz2
        replace hB := below_seq hB hk
        replace xr := xr.seq hk
        replace xx := xx.seq hk
        replace xy := xy.seq hk
        clear hk
        have xr0 := xr.cell 0 rfl
        have xrz0 := xr.frozen 0
        have xr1 := xr.cell 1 rfl
        have xrz1 := xr.frozen 1
        have xr2 := xr.cell 2 rfl
        have xrz2 := xr.frozen 2
        have xx0 := xx.cell 0 rfl
        have xxz0 := xx.frozen 0
        have xx1 := xx.cell 1 rfl
        have xxz1 := xx.frozen 1
        have xx2 := xx.cell 2 rfl
        have xxz2 := xx.frozen 2
        have xy0 := xy.cell 0 rfl
        have xyz0 := xy.frozen 0
        have xy1 := xy.cell 1 rfl
        have xyz1 := xy.frozen 1
        have xy2 := xy.cell 2 rfl
        have xyz2 := xy.frozen 2
        go_wp2
        go_ret
        exact ⟨rfl, hB⟩
      · by_cases k2 : 3 < r.kind
        · have c1 : r.kind ≥ 1 := by omega
          have c2 : ¬ r.kind ≤ 3 := by omega
          have TD := Lib.hid (fun (W : World) => own07Decode (bs (encL r)) W hz)
          generalize decR (bl (bs (encL r))) = x at *
          generalize decE (bl (bs (encL r))) = E1 at *
          clear hz
          generalize bs (encL r) = u at *
          have TS := Lib.hid (fun (W : World) => own07Decode s W (by omega))
          obtain ⟨q1, q2, q3⟩ := enc_decR hF
          have TY := Lib.hid (fun (W : World) => (show Calls Try.prog 26 #[.agg #[.int .i64 (decR (bl s)).kind, .int .u64 ((decR (bl s)).seq : Int), .int .u64 ((decR (bl s)).data : Int)]] W fun e W' => e = .returned (.string s) ∧ Below W.heap.size W W' from by have h := own07Encode (decR (bl s)) W q3; rwa [q1, bs_bl] at h))
          have n1 : (decE (bl s) != 0) = false := by rw [hF]; rfl
          clear q1 q2 q3 hF hr
          generalize decR (bl s) = y at *
          generalize decE (bl s) = F at *
          have hB : Below W.heap.size W (W.alloc (.cells #[.int .i64 r.kind, .int .u64 (r.seq : Int), .int .u64 (r.data : Int)] 36)) := ((Below.refl _ _).alloc (Nat.le_refl _) _)
          have xr := (Box.new 36 W [.int .i64 r.kind, .int .u64 (r.seq : Int), .int .u64 (r.data : Int)])
          go_enter Try.func11, Try.ntmps11
          go_wp2_with fail
          refine (shown07 _).mono ?_
          rintro e V1 ⟨rfl, hk⟩
          replace hB := below_seq hB hk
          replace xr := xr.seq hk
          clear hk
          have xr0 := xr.cell 0 rfl
          have xrz0 := xr.frozen 0
          have xr1 := xr.cell 1 rfl
          have xrz1 := xr.frozen 1
          have xr2 := xr.cell 2 rfl
          have xrz2 := xr.frozen 2
          go_wp2_with fail
          refine (TE.out _).mono ?_
          rintro e V2 ⟨rfl, hk⟩
          clear xr0 xrz0 xr1 xrz1 xr2 xrz2
          replace hB := below_seq hB hk
          replace xr := xr.seq hk
          clear hk
          have xr0 := xr.cell 0 rfl
          have xrz0 := xr.frozen 0
          have xr1 := xr.cell 1 rfl
          have xrz1 := xr.frozen 1
          have xr2 := xr.cell 2 rfl
          have xrz2 := xr.frozen 2
          go_wp2_with fail
          refine (TD.out _).mono ?_
          rintro e V3 ⟨rfl, hk⟩
          clear xr0 xrz0 xr1 xrz1 xr2 xrz2
          replace hB := below_seq hB hk
          replace xr := xr.seq hk
          clear hk
          have xx := Box.new 36 V3 [.int .i64 x.kind, .int .u64 (x.seq : Int), .int .u64 (x.data : Int)]
          have ne_xx_xr : V3.heap.size ≠ W.heap.size := Nat.ne_of_gt xr.lt
          have le_xx : W.heap.size ≤ V3.heap.size := hB.size
          replace xr := xr.alloc (.cells #[.int .i64 x.kind, .int .u64 (x.seq : Int), .int .u64 (x.data : Int)] 36)
          replace hB := hB.alloc hB.size (.cells #[.int .i64 x.kind, .int .u64 (x.seq : Int), .int .u64 (x.data : Int)] 36)
          have xr0 := xr.cell 0 rfl
          have xrz0 := xr.frozen 0
          have xr1 := xr.cell 1 rfl
          have xrz1 := xr.frozen 1
          have xr2 := xr.cell 2 rfl
          have xrz2 := xr.frozen 2
          have xx0 := xx.cell 0 rfl
          have xxz0 := xx.frozen 0
          have xx1 := xx.cell 1 rfl
          have xxz1 := xx.frozen 1
          have xx2 := xx.cell 2 rfl
          have xxz2 := xx.frozen 2
          go_wp2_with fail
          refine (TS.out _).mono ?_
          rintro e V4 ⟨rfl, hk⟩
          clear xr0 xrz0 xr1 xrz1 xr2 xrz2 xx0 xxz0 xx1 xxz1 xx2 xxz2
          replace hB := below_seq hB hk
          replace xr := xr.seq hk
          replace xx := xx.seq hk
          clear hk
          have xy := Box.new 36 V4 [.int .i64 y.kind, .int .u64 (y.seq : Int), .int .u64 (y.data : Int)]
          have ne_xy_xr : V4.heap.size ≠ W.heap.size := Nat.ne_of_gt xr.lt
          have ne_xy_xx : V4.heap.size ≠ V3.heap.size := Nat.ne_of_gt xx.lt
          have le_xy : W.heap.size ≤ V4.heap.size := hB.size
          replace xr := xr.alloc (.cells #[.int .i64 y.kind, .int .u64 (y.seq : Int), .int .u64 (y.data : Int)] 36)
          replace xx := xx.alloc (.cells #[.int .i64 y.kind, .int .u64 (y.seq : Int), .int .u64 (y.data : Int)] 36)
          replace hB := hB.alloc hB.size (.cells #[.int .i64 y.kind, .int .u64 (y.seq : Int), .int .u64 (y.data : Int)] 36)
          have xr0 := xr.cell 0 rfl
          have xrz0 := xr.frozen 0
          have xr1 := xr.cell 1 rfl
          have xrz1 := xr.frozen 1
          have xr2 := xr.cell 2 rfl
          have xrz2 := xr.frozen 2
          have xx0 := xx.cell 0 rfl
          have xxz0 := xx.frozen 0
          have xx1 := xx.cell 1 rfl
          have xxz1 := xx.frozen 1
          have xx2 := xx.cell 2 rfl
          have xxz2 := xx.frozen 2
          have xy0 := xy.cell 0 rfl
          have xyz0 := xy.frozen 0
          have xy1 := xy.cell 1 rfl
          have xyz1 := xy.frozen 1
          have xy2 := xy.cell 2 rfl
          have xyz2 := xy.frozen 2
          go_wp2_with fail
          refine (TY.out _).mono ?_
          rintro e V5 ⟨rfl, hk⟩
          clear xr0 xrz0 xr1 xrz1 xr2 xrz2 xx0 xxz0 xx1 xxz1 xx2 xxz2 xy0 xyz0 xy1 xyz1 xy2 xyz2
          replace hB := below_seq hB hk
          replace xr := xr.seq hk
          replace xx := xx.seq hk
          replace xy := xy.seq hk
          clear hk
          have xr0 := xr.cell 0 rfl
          have xrz0 := xr.frozen 0
          have xr1 := xr.cell 1 rfl
          have xrz1 := xr.frozen 1
          have xr2 := xr.cell 2 rfl
          have xrz2 := xr.frozen 2
          have xx0 := xx.cell 0 rfl
          have xxz0 := xx.frozen 0
          have xx1 := xx.cell 1 rfl
          have xxz1 := xx.frozen 1
          have xx2 := xx.cell 2 rfl
          have xxz2 := xx.frozen 2
          have xy0 := xy.cell 0 rfl
          have xyz0 := xy.frozen 0
          have xy1 := xy.cell 1 rfl
          have xyz1 := xy.frozen 1
          have xy2 := xy.cell 2 rfl
          have xyz2 := xy.frozen 2
          go_wp2
          go_ret
          exact ⟨rfl, hB⟩
        · have c1 : r.kind ≥ 1 := by omega
          have c2 : r.kind ≤ 3 := by omega
          have TD := Lib.hid (fun (W : World) => (show Calls Try.prog 31 #[.string (bs (encL r))] W fun e W' => e = .returned (.tuple #[.agg #[.int .i64 r.kind, .int .u64 (r.seq : Int), .int .u64 (r.data : Int)], .int .i64 0]) ∧ Below W.heap.size W W' from by have h := own07Decode (bs (encL r)) W hz; rw [bl_bs] at h; rwa [decR_body hr ⟨c1, c2⟩, show decE (encL r) = 0 from (dec_body ⟨c1, c2⟩ (m := markL) rfl).trans (if_pos rfl)] at h))
          clear hz
          generalize bs (encL r) = u at *
          have TS := Lib.hid (fun (W : World) => own07Decode s W (by omega))
          obtain ⟨q1, q2, q3⟩ := enc_decR hF
          have TY := Lib.hid (fun (W : World) => (show Calls Try.prog 26 #[.agg #[.int .i64 (decR (bl s)).kind, .int .u64 ((decR (bl s)).seq : Int), .int .u64 ((decR (bl s)).data : Int)]] W fun e W' => e = .returned (.string s) ∧ Below W.heap.size W W' from by have h := own07Encode (decR (bl s)) W q3; rwa [q1, bs_bl] at h))
          have n1 : (decE (bl s) != 0) = false := by rw [hF]; rfl
          clear q1 q2 q3 hF hr
          generalize decR (bl s) = y at *
          generalize decE (bl s) = F at *
          have hB : Below W.heap.size W (W.alloc (.cells #[.int .i64 r.kind, .int .u64 (r.seq : Int), .int .u64 (r.data : Int)] 36)) := ((Below.refl _ _).alloc (Nat.le_refl _) _)
          have xr := (Box.new 36 W [.int .i64 r.kind, .int .u64 (r.seq : Int), .int .u64 (r.data : Int)])
          go_enter Try.func11, Try.ntmps11
          go_wp2_with fail
          refine (shown07 _).mono ?_
          rintro e V1 ⟨rfl, hk⟩
          replace hB := below_seq hB hk
          replace xr := xr.seq hk
          clear hk
          have xr0 := xr.cell 0 rfl
          have xrz0 := xr.frozen 0
          have xr1 := xr.cell 1 rfl
          have xrz1 := xr.frozen 1
          have xr2 := xr.cell 2 rfl
          have xrz2 := xr.frozen 2
          go_wp2_with fail
          refine (TE.out _).mono ?_
          rintro e V2 ⟨rfl, hk⟩
          clear xr0 xrz0 xr1 xrz1 xr2 xrz2
          replace hB := below_seq hB hk
          replace xr := xr.seq hk
          clear hk
          have xr0 := xr.cell 0 rfl
          have xrz0 := xr.frozen 0
          have xr1 := xr.cell 1 rfl
          have xrz1 := xr.frozen 1
          have xr2 := xr.cell 2 rfl
          have xrz2 := xr.frozen 2
          go_wp2_with fail
          refine (TD.out _).mono ?_
          rintro e V3 ⟨rfl, hk⟩
          clear xr0 xrz0 xr1 xrz1 xr2 xrz2
          replace hB := below_seq hB hk
          replace xr := xr.seq hk
          clear hk
          have xx := Box.new 36 V3 [.int .i64 r.kind, .int .u64 (r.seq : Int), .int .u64 (r.data : Int)]
          have ne_xx_xr : V3.heap.size ≠ W.heap.size := Nat.ne_of_gt xr.lt
          have le_xx : W.heap.size ≤ V3.heap.size := hB.size
          replace xr := xr.alloc (.cells #[.int .i64 r.kind, .int .u64 (r.seq : Int), .int .u64 (r.data : Int)] 36)
          replace hB := hB.alloc hB.size (.cells #[.int .i64 r.kind, .int .u64 (r.seq : Int), .int .u64 (r.data : Int)] 36)
          have xr0 := xr.cell 0 rfl
          have xrz0 := xr.frozen 0
          have xr1 := xr.cell 1 rfl
          have xrz1 := xr.frozen 1
          have xr2 := xr.cell 2 rfl
          have xrz2 := xr.frozen 2
          have xx0 := xx.cell 0 rfl
          have xxz0 := xx.frozen 0
          have xx1 := xx.cell 1 rfl
          have xxz1 := xx.frozen 1
          have xx2 := xx.cell 2 rfl
          have xxz2 := xx.frozen 2
          go_wp2_with fail
          refine (TS.out _).mono ?_
          rintro e V4 ⟨rfl, hk⟩
          clear xr0 xrz0 xr1 xrz1 xr2 xrz2 xx0 xxz0 xx1 xxz1 xx2 xxz2
          replace hB := below_seq hB hk
          replace xr := xr.seq hk
          replace xx := xx.seq hk
          clear hk
          have xy := Box.new 36 V4 [.int .i64 y.kind, .int .u64 (y.seq : Int), .int .u64 (y.data : Int)]
          have ne_xy_xr : V4.heap.size ≠ W.heap.size := Nat.ne_of_gt xr.lt
          have ne_xy_xx : V4.heap.size ≠ V3.heap.size := Nat.ne_of_gt xx.lt
          have le_xy : W.heap.size ≤ V4.heap.size := hB.size
          replace xr := xr.alloc (.cells #[.int .i64 y.kind, .int .u64 (y.seq : Int), .int .u64 (y.data : Int)] 36)
          replace xx := xx.alloc (.cells #[.int .i64 y.kind, .int .u64 (y.seq : Int), .int .u64 (y.data : Int)] 36)
          replace hB := hB.alloc hB.size (.cells #[.int .i64 y.kind, .int .u64 (y.seq : Int), .int .u64 (y.data : Int)] 36)
          have xr0 := xr.cell 0 rfl
          have xrz0 := xr.frozen 0
          have xr1 := xr.cell 1 rfl
          have xrz1 := xr.frozen 1
          have xr2 := xr.cell 2 rfl
          have xrz2 := xr.frozen 2
          have xx0 := xx.cell 0 rfl
          have xxz0 := xx.frozen 0
          have xx1 := xx.cell 1 rfl
          have xxz1 := xx.frozen 1
          have xx2 := xx.cell 2 rfl
          have xxz2 := xx.frozen 2
          have xy0 := xy.cell 0 rfl
          have xyz0 := xy.frozen 0
          have xy1 := xy.cell 1 rfl
          have xyz1 := xy.frozen 1
          have xy2 := xy.cell 2 rfl
          have xyz2 := xy.frozen 2
          go_wp2_with fail
          refine (TY.out _).mono ?_
          rintro e V5 ⟨rfl, hk⟩
          clear xr0 xrz0 xr1 xrz1 xr2 xrz2 xx0 xxz0 xx1 xxz1 xx2 xxz2 xy0 xyz0 xy1 xyz1 xy2 xyz2
          replace hB := below_seq hB hk
          replace xr := xr.seq hk
          replace xx := xx.seq hk
          replace xy := xy.seq hk
          clear hk
          have xr0 := xr.cell 0 rfl
          have xrz0 := xr.frozen 0
          have xr1 := xr.cell 1 rfl
          have xrz1 := xr.frozen 1
          have xr2 := xr.cell 2 rfl
          have xrz2 := xr.frozen 2
          have xx0 := xx.cell 0 rfl
          have xxz0 := xx.frozen 0
          have xx1 := xx.cell 1 rfl
          have xxz1 := xx.frozen 1
          have xx2 := xx.cell 2 rfl
          have xxz2 := xx.frozen 2
          have xy0 := xy.cell 0 rfl
          have xyz0 := xy.frozen 0
          have xy1 := xy.cell 1 rfl
          have xyz1 := xy.frozen 1
          have xy2 := xy.cell 2 rfl
          have xyz2 := xy.frozen 2
          go_wp2
          go_ret
          exact ⟨rfl, hB⟩
    · by_cases k1 : r.kind < 1
      · have c1 : ¬ r.kind ≥ 1 := by omega
        have TD := Lib.hid (fun (W : World) => own07Decode (bs (encL r)) W hz)
        generalize decR (bl (bs (encL r))) = x at *
        generalize decE (bl (bs (encL r))) = E1 at *
        clear hz
        generalize bs (encL r) = u at *
        have TS := Lib.hid (fun (W : World) => own07Decode s W (by omega))
        have n1 : (decE (bl s) != 0) = true := bne_iff_ne.2 hF
        clear hF hr
        generalize decR (bl s) = y at *
        generalize decE (bl s) = F at *
        have hB : Below W.heap.size W (W.alloc (.cells #[.int .i64 r.kind, .int .u64 (r.seq : Int), .int .u64 (r.data : Int)] 36)) := ((Below.refl _ _).alloc (Nat.le_refl _) _)
        have xr := (Box.new 36 W [.int .i64 r.kind, .int .u64 (r.seq : Int), .int .u64 (r.data : Int)])
        go_enter Try.func11, Try.ntmps11
        go_wp2_with fail
        refine (shown07 _).mono ?_
        rintro e V1 ⟨rfl, hk⟩
        replace hB := below_seq hB hk
        replace xr := xr.seq hk
        clear hk
        have xr0 := xr.cell 0 rfl
        have xrz0 := xr.frozen 0
        have xr1 := xr.cell 1 rfl
        have xrz1 := xr.frozen 1
        have xr2 := xr.cell 2 rfl
        have xrz2 := xr.frozen 2
        go_wp2_with fail
        refine (TE.out _).mono ?_
        rintro e V2 ⟨rfl, hk⟩
        clear xr0 xrz0 xr1 xrz1 xr2 xrz2
        replace hB := below_seq hB hk
        replace xr := xr.seq hk
        clear hk
        have xr0 := xr.cell 0 rfl
        have xrz0 := xr.frozen 0
        have xr1 := xr.cell 1 rfl
        have xrz1 := xr.frozen 1
        have xr2 := xr.cell 2 rfl
        have xrz2 := xr.frozen 2
        go_wp2_with fail
        refine (TD.out _).mono ?_
        rintro e V3 ⟨rfl, hk⟩
        clear xr0 xrz0 xr1 xrz1 xr2 xrz2
        replace hB := below_seq hB hk
        replace xr := xr.seq hk
        clear hk
        have xx := Box.new 36 V3 [.int .i64 x.kind, .int .u64 (x.seq : Int), .int .u64 (x.data : Int)]
        have ne_xx_xr : V3.heap.size ≠ W.heap.size := Nat.ne_of_gt xr.lt
        have le_xx : W.heap.size ≤ V3.heap.size := hB.size
        replace xr := xr.alloc (.cells #[.int .i64 x.kind, .int .u64 (x.seq : Int), .int .u64 (x.data : Int)] 36)
        replace hB := hB.alloc hB.size (.cells #[.int .i64 x.kind, .int .u64 (x.seq : Int), .int .u64 (x.data : Int)] 36)
        have xr0 := xr.cell 0 rfl
        have xrz0 := xr.frozen 0
        have xr1 := xr.cell 1 rfl
        have xrz1 := xr.frozen 1
        have xr2 := xr.cell 2 rfl
        have xrz2 := xr.frozen 2
        have xx0 := xx.cell 0 rfl
        have xxz0 := xx.frozen 0
        have xx1 := xx.cell 1 rfl
        have xxz1 := xx.frozen 1
        have xx2 := xx.cell 2 rfl
        have xxz2 := xx.frozen 2
        go_wp2_with fail
        refine (TS.out _).mono ?_
        rintro e V4 ⟨rfl, hk⟩
        clear xr0 xrz0 xr1 xrz1 xr2 xrz2 xx0 xxz0 xx1 xxz1 xx2 xxz2
        replace hB := below_seq hB hk
        replace xr := xr.seq hk
        replace xx := xx.seq hk
        clear hk
        have xy := Box.new 36 V4 [.int .i64 y.kind, .int .u64 (y.seq : Int), .int .u64 (y.data : Int)]
        have ne_xy_xr : V4.heap.size ≠ W.heap.size := Nat.ne_of_gt xr.lt
        have ne_xy_xx : V4.heap.size ≠ V3.heap.size := Nat.ne_of_gt xx.lt
        have le_xy : W.heap.size ≤ V4.heap.size := hB.size
        replace xr := xr.alloc (.cells #[.int .i64 y.kind, .int .u64 (y.seq : Int), .int .u64 (y.data : Int)] 36)
        replace xx := xx.alloc (.cells #[.int .i64 y.kind, .int .u64 (y.seq : Int), .int .u64 (y.data : Int)] 36)
        replace hB := hB.alloc hB.size (.cells #[.int .i64 y.kind, .int .u64 (y.seq : Int), .int .u64 (y.data : Int)] 36)
        have xr0 := xr.cell 0 rfl
        have xrz0 := xr.frozen 0
        have xr1 := xr.cell 1 rfl
        have xrz1 := xr.frozen 1
        have xr2 := xr.cell 2 rfl
        have xrz2 := xr.frozen 2
        have xx0 := xx.cell 0 rfl
        have xxz0 := xx.frozen 0
        have xx1 := xx.cell 1 rfl
        have xxz1 := xx.frozen 1
        have xx2 := xx.cell 2 rfl
        have xxz2 := xx.frozen 2
        have xy0 := xy.cell 0 rfl
        have xyz0 := xy.frozen 0
        have xy1 := xy.cell 1 rfl
        have xyz1 := xy.frozen 1
        have xy2 := xy.cell 2 rfl
        have xyz2 := xy.frozen 2
        go_wp2
        go_ret
        exact ⟨rfl, hB⟩
      · by_cases k2 : 3 < r.kind
        · have c1 : r.kind ≥ 1 := by omega
          have c2 : ¬ r.kind ≤ 3 := by omega
          have TD := Lib.hid (fun (W : World) => own07Decode (bs (encL r)) W hz)
          generalize decR (bl (bs (encL r))) = x at *
          generalize decE (bl (bs (encL r))) = E1 at *
          clear hz
          generalize bs (encL r) = u at *
          have TS := Lib.hid (fun (W : World) => own07Decode s W (by omega))
          have n1 : (decE (bl s) != 0) = true := bne_iff_ne.2 hF
          clear hF hr
          generalize decR (bl s) = y at *
          generalize decE (bl s) = F at *
          have hB : Below W.heap.size W (W.alloc (.cells #[.int .i64 r.kind, .int .u64 (r.seq : Int), .int .u64 (r.data : Int)] 36)) := ((Below.refl _ _).alloc (Nat.le_refl _) _)
          have xr := (Box.new 36 W [.int .i64 r.kind, .int .u64 (r.seq : Int), .int .u64 (r.data : Int)])
          go_enter Try.func11, Try.ntmps11
          go_wp2_with fail
          refine (shown07 _).mono ?_
          rintro e V1 ⟨rfl, hk⟩
          replace hB := below_seq hB hk
          replace xr := xr.seq hk
          clear hk
          have xr0 := xr.cell 0 rfl
          have xrz0 := xr.frozen 0
          have xr1 := xr.cell 1 rfl
          have xrz1 := xr.frozen 1
          have xr2 := xr.cell 2 rfl
          have xrz2 := xr.frozen 2
          go_wp2_with fail
          refine (TE.out _).mono ?_
          rintro e V2 ⟨rfl, hk⟩
          clear xr0 xrz0 xr1 xrz1 xr2 xrz2
          replace hB := below_seq hB hk
          replace xr := xr.seq hk
          clear hk
          have xr0 := xr.cell 0 rfl
          have xrz0 := xr.frozen 0
          have xr1 := xr.cell 1 rfl
          have xrz1 := xr.frozen 1
          have xr2 := xr.cell 2 rfl
          have xrz2 := xr.frozen 2
          go_wp2_with fail
          refine (TD.out _).mono ?_
          rintro e V3 ⟨rfl, hk⟩
          clear xr0 xrz0 xr1 xrz1 xr2 xrz2
          replace hB := below_seq hB hk
          replace xr := xr.seq hk
          clear hk
          have xx := Box.new 36 V3 [.int .i64 x.kind, .int .u64 (x.seq : Int), .int .u64 (x.data : Int)]
          have ne_xx_xr : V3.heap.size ≠ W.heap.size := Nat.ne_of_gt xr.lt
          have le_xx : W.heap.size ≤ V3.heap.size := hB.size
          replace xr := xr.alloc (.cells #[.int .i64 x.kind, .int .u64 (x.seq : Int), .int .u64 (x.data : Int)] 36)
          replace hB := hB.alloc hB.size (.cells #[.int .i64 x.kind, .int .u64 (x.seq : Int), .int .u64 (x.data : Int)] 36)
          have xr0 := xr.cell 0 rfl
          have xrz0 := xr.frozen 0
          have xr1 := xr.cell 1 rfl
          have xrz1 := xr.frozen 1
          have xr2 := xr.cell 2 rfl
          have xrz2 := xr.frozen 2
          have xx0 := xx.cell 0 rfl
          have xxz0 := xx.frozen 0
          have xx1 := xx.cell 1 rfl
          have xxz1 := xx.frozen 1
          have xx2 := xx.cell 2 rfl
          have xxz2 := xx.frozen 2
          go_wp2_with fail
          refine (TS.out _).mono ?_
          rintro e V4 ⟨rfl, hk⟩
          clear xr0 xrz0 xr1 xrz1 xr2 xrz2 xx0 xxz0 xx1 xxz1 xx2 xxz2
          replace hB := below_seq hB hk
          replace xr := xr.seq hk
          replace xx := xx.seq hk
          clear hk
          have xy := Box.new 36 V4 [.int .i64 y.kind, .int .u64 (y.seq : Int), .int .u64 (y.data : Int)]
          have ne_xy_xr : V4.heap.size ≠ W.heap.size := Nat.ne_of_gt xr.lt
          have ne_xy_xx : V4.heap.size ≠ V3.heap.size := Nat.ne_of_gt xx.lt
          have le_xy : W.heap.size ≤ V4.heap.size := hB.size
          replace xr := xr.alloc (.cells #[.int .i64 y.kind, .int .u64 (y.seq : Int), .int .u64 (y.data : Int)] 36)
          replace xx := xx.alloc (.cells #[.int .i64 y.kind, .int .u64 (y.seq : Int), .int .u64 (y.data : Int)] 36)
          replace hB := hB.alloc hB.size (.cells #[.int .i64 y.kind, .int .u64 (y.seq : Int), .int .u64 (y.data : Int)] 36)
          have xr0 := xr.cell 0 rfl
          have xrz0 := xr.frozen 0
          have xr1 := xr.cell 1 rfl
          have xrz1 := xr.frozen 1
          have xr2 := xr.cell 2 rfl
          have xrz2 := xr.frozen 2
          have xx0 := xx.cell 0 rfl
          have xxz0 := xx.frozen 0
          have xx1 := xx.cell 1 rfl
          have xxz1 := xx.frozen 1
          have xx2 := xx.cell 2 rfl
          have xxz2 := xx.frozen 2
          have xy0 := xy.cell 0 rfl
          have xyz0 := xy.frozen 0
          have xy1 := xy.cell 1 rfl
          have xyz1 := xy.frozen 1
          have xy2 := xy.cell 2 rfl
          have xyz2 := xy.frozen 2
          go_wp2
          go_ret
          exact ⟨rfl, hB⟩
        · have c1 : r.kind ≥ 1 := by omega
          have c2 : r.kind ≤ 3 := by omega
          have TD := Lib.hid (fun (W : World) => (show Calls Try.prog 31 #[.string (bs (encL r))] W fun e W' => e = .returned (.tuple #[.agg #[.int .i64 r.kind, .int .u64 (r.seq : Int), .int .u64 (r.data : Int)], .int .i64 0]) ∧ Below W.heap.size W W' from by have h := own07Decode (bs (encL r)) W hz; rw [bl_bs] at h; rwa [decR_body hr ⟨c1, c2⟩, show decE (encL r) = 0 from (dec_body ⟨c1, c2⟩ (m := markL) rfl).trans (if_pos rfl)] at h))
          clear hz
          generalize bs (encL r) = u at *
          have TS := Lib.hid (fun (W : World) => own07Decode s W (by omega))
          have n1 : (decE (bl s) != 0) = true := bne_iff_ne.2 hF
          clear hF hr
          generalize decR (bl s) = y at *
          generalize decE (bl s) = F at *
          have hB : Below W.heap.size W (W.alloc (.cells #[.int .i64 r.kind, .int .u64 (r.seq : Int), .int .u64 (r.data : Int)] 36)) := ((Below.refl _ _).alloc (Nat.le_refl _) _)
          have xr := (Box.new 36 W [.int .i64 r.kind, .int .u64 (r.seq : Int), .int .u64 (r.data : Int)])
          go_enter Try.func11, Try.ntmps11
          go_wp2_with fail
          refine (shown07 _).mono ?_
          rintro e V1 ⟨rfl, hk⟩
          replace hB := below_seq hB hk
          replace xr := xr.seq hk
          clear hk
          have xr0 := xr.cell 0 rfl
          have xrz0 := xr.frozen 0
          have xr1 := xr.cell 1 rfl
          have xrz1 := xr.frozen 1
          have xr2 := xr.cell 2 rfl
          have xrz2 := xr.frozen 2
          go_wp2_with fail
          refine (TE.out _).mono ?_
          rintro e V2 ⟨rfl, hk⟩
          clear xr0 xrz0 xr1 xrz1 xr2 xrz2
          replace hB := below_seq hB hk
          replace xr := xr.seq hk
          clear hk
          have xr0 := xr.cell 0 rfl
          have xrz0 := xr.frozen 0
          have xr1 := xr.cell 1 rfl
          have xrz1 := xr.frozen 1
          have xr2 := xr.cell 2 rfl
          have xrz2 := xr.frozen 2
          go_wp2_with fail
          refine (TD.out _).mono ?_
          rintro e V3 ⟨rfl, hk⟩
          clear xr0 xrz0 xr1 xrz1 xr2 xrz2
          replace hB := below_seq hB hk
          replace xr := xr.seq hk
          clear hk
          have xx := Box.new 36 V3 [.int .i64 r.kind, .int .u64 (r.seq : Int), .int .u64 (r.data : Int)]
          have ne_xx_xr : V3.heap.size ≠ W.heap.size := Nat.ne_of_gt xr.lt
          have le_xx : W.heap.size ≤ V3.heap.size := hB.size
          replace xr := xr.alloc (.cells #[.int .i64 r.kind, .int .u64 (r.seq : Int), .int .u64 (r.data : Int)] 36)
          replace hB := hB.alloc hB.size (.cells #[.int .i64 r.kind, .int .u64 (r.seq : Int), .int .u64 (r.data : Int)] 36)
          have xr0 := xr.cell 0 rfl
          have xrz0 := xr.frozen 0
          have xr1 := xr.cell 1 rfl
          have xrz1 := xr.frozen 1
          have xr2 := xr.cell 2 rfl
          have xrz2 := xr.frozen 2
          have xx0 := xx.cell 0 rfl
          have xxz0 := xx.frozen 0
          have xx1 := xx.cell 1 rfl
          have xxz1 := xx.frozen 1
          have xx2 := xx.cell 2 rfl
          have xxz2 := xx.frozen 2
          go_wp2_with fail
          refine (TS.out _).mono ?_
          rintro e V4 ⟨rfl, hk⟩
          clear xr0 xrz0 xr1 xrz1 xr2 xrz2 xx0 xxz0 xx1 xxz1 xx2 xxz2
          replace hB := below_seq hB hk
          replace xr := xr.seq hk
          replace xx := xx.seq hk
          clear hk
          have xy := Box.new 36 V4 [.int .i64 y.kind, .int .u64 (y.seq : Int), .int .u64 (y.data : Int)]
          have ne_xy_xr : V4.heap.size ≠ W.heap.size := Nat.ne_of_gt xr.lt
          have ne_xy_xx : V4.heap.size ≠ V3.heap.size := Nat.ne_of_gt xx.lt
          have le_xy : W.heap.size ≤ V4.heap.size := hB.size
          replace xr := xr.alloc (.cells #[.int .i64 y.kind, .int .u64 (y.seq : Int), .int .u64 (y.data : Int)] 36)
          replace xx := xx.alloc (.cells #[.int .i64 y.kind, .int .u64 (y.seq : Int), .int .u64 (y.data : Int)] 36)
          replace hB := hB.alloc hB.size (.cells #[.int .i64 y.kind, .int .u64 (y.seq : Int), .int .u64 (y.data : Int)] 36)
          have xr0 := xr.cell 0 rfl
          have xrz0 := xr.frozen 0
          have xr1 := xr.cell 1 rfl
          have xrz1 := xr.frozen 1
          have xr2 := xr.cell 2 rfl
          have xrz2 := xr.frozen 2
          have xx0 := xx.cell 0 rfl
          have xxz0 := xx.frozen 0
          have xx1 := xx.cell 1 rfl
          have xxz1 := xx.frozen 1
          have xx2 := xx.cell 2 rfl
          have xxz2 := xx.frozen 2
          have xy0 := xy.cell 0 rfl
          have xyz0 := xy.frozen 0
          have xy1 := xy.cell 1 rfl
          have xyz1 := xy.frozen 1
          have xy2 := xy.cell 2 rfl
          have xyz2 := xy.frozen 2
          go_wp2
          go_ret
          exact ⟨rfl, hB⟩

theorem own : ownKnob Try.prog.godebug = none := by kernel_rfl

set_option maxRecDepth 100000 in
theorem lifted (os : Os) (started : os.Started) (H : Type) (enc : TypeId × Value → H) :
    ReturnsInHanded {} Try.checked os 11 .any (Rows.recordBackSpec.pre6 enc Try.prog Try.f11 Rows.recordBackRow.domain false) (Rows.recordBackSpec.post enc Try.prog Try.f11 false true false false) := by
  refine returnsInHanded_of_change (C := Try.checked) own started (by kernel_rfl) Try.func11
    (ChangeSpec.witness6 (enc := enc) (C := Try.checked) false ⟨#[], #[.agg #[.int .i64 0, .int .u64 0, .int .u64 0], .string ⟨#[]⟩], []⟩ 8 (by kernel_rfl) (by kernel_rfl) (by kernel_rfl) (by kernel_rfl)) ?_
  intro W base args ds gs before hval hW _ _
  have hW' := hW
  obtain ⟨p, q, hA0, hV, rfl, hfz, hnd⟩ := hW
  have hA : DataW.TrodAll enc Try.prog W 0 (fun _ => true) true Try.f11.params.toList args.toList ds p := hA0
  rw [Try.params11] at hA hval
  obtain ⟨v0, vs0, d0, ds0, p0, q0, hargs, rfl, rfl, h0, r0⟩ := trodAll_cons hA
  obtain ⟨v1, vs1, d1, ds1, p1, q1, rfl, rfl, rfl, h1, r1⟩ := trodAll_cons r0
  obtain ⟨rfl, rfl, rfl⟩ := trodAll_nil r1
  obtain rfl : args = #[v0, v1] := by cases args; simp_all
  obtain ⟨rfl, rfl⟩ := trodVars_none hV
  have k0 := h0
  obtain ⟨s0, rfl, hs0⟩ := open_rec (hval 0 36 v0 rfl rfl) h0
  obtain ⟨s1, rfl, rfl, rfl, hs1⟩ := open_string Try.underlying9 (hval 1 9 v1 rfl rfl) h1
  clear hA0
  simp only [List.append_nil] at hW'
  refine (walk s0 s1 W hs0 hs1).mono fun e W' ⟨he, hB⟩ => ?_
  subst he
  exact ⟨_, rfl, ⟨_, _, _, [], _, [], hW', trodAll_cons_mk (shut_bool Try.underlying4 _) trodAll_mk0, (trodAll_cons_mk (Below.trod Try.laidOut (by kernel_rfl) (of_decide_eq_true (by kernel_rfl)) k0 hB (fun x hx => by simpa using hW'.lt x (by simp [hx]))) (trodAll_cons_mk (shut_string Try.underlying9 hs1) trodAll_mk0)), rfl, hB.frame _, fun h => by cases h⟩⟩

theorem holds : Rows.RecordBackSaid :=
  OpenClaim.holds_of_wide 11 Try.f11 rfl rfl rfl rfl rfl rfl rfl ⟨rfl, rfl, rfl, rfl, rfl⟩ rfl rfl rfl rfl rfl (by kernel_rfl) Try.func11 (by kernel_rfl)
    (of_decide_eq_true (by kernel_rfl)) (by unfold Func.isWrapper; first | (rw [if_pos (by decide +kernel)]; kernel_rfl) | (rw [if_neg (by decide +kernel)]; exact ⟨rfl, rfl⟩))
    (fun os started H enc _ => lifted os started H enc)
end Go.Proofs.Ytoemjfjmpmngeac.RecordBack

/- Whatever of a body is torn over blank bytes, it is not good; behind a whole body, whatever of the mark is torn, it is good just if all of it is there (RecordTorn); no condition. -/
import Derived.Test.YtoemjfjmpmngeacRecLaw
import Derived.Deep.RegionHeld3
import Derived.WalkLawsBesides
import Derived.WalkSpells
import Derived.IntWalk
import Derived.Lib.Hide
import Derived.Test.YtoemjfjmpmngeacBox
import Derived.Test.YtoemjfjmpmngeacRef
import Derived.Test.YtoemjfjmpmngeacFlashRef
import Derived.ProofKit
import Derived.OpenShut
import Derived.ChangeMaps5
import Derived.Test.YtoemjfjmpmngeacInts
namespace Go.Proofs.Ytoemjfjmpmngeac.RecordTorn
open Go.ChangeShapes Go.WideShapes Go.ChangeAt Go.RowKit Go.ChangeMaps
set_option linter.unusedVariables false
set_option linter.unusedSimpArgs false

set_option maxRecDepth 100000 in
set_option maxHeartbeats 16000000 in
theorem walk (r : Rec) (m : ByteArray) (e : ByteArray) (W : World) (hr : r.ok) (hm : m.size ≤ maxLen) (he : e.size ≤ maxLen) :
    Calls Try.prog 12 #[.agg #[.int .i64 r.kind, .int .u64 (r.seq : Int), .int .u64 (r.data : Int)], .string m, .string e] W fun e W' => e = .returned (.bool true) ∧ Below W.heap.size W W' := by
  by_cases c0 : 100 < m.size
  · have b1 : (m.size : Int) > 100 := by omega
    have hB : Below W.heap.size W (W.alloc (.cells #[.int .i64 r.kind, .int .u64 (r.seq : Int), .int .u64 (r.data : Int)] 36)) := ((Below.refl _ _).alloc (Nat.le_refl _) _)
    have xr := (Box.new 36 W [.int .i64 r.kind, .int .u64 (r.seq : Int), .int .u64 (r.data : Int)])
    go_enter Try.func12, Try.ntmps12
    go_wp2_with fail
    refine (shown07 _).mono ?_
    rintro e V1 ⟨rfl, hk⟩
    replace hB := below_seq hB hk
    replace xr := xr.seq hk
    clear hk
    have xr0 := xr.cell 0 rfl
    have xrz0 := xr.frozen 0
    have xr1 := xr.cell 1 rfl
    have xrz1 := xr.frozen 1
    have xr2 := xr.cell 2 rfl
    have xrz2 := xr.frozen 2
    go_wp2
    go_ret
    exact ⟨rfl, hB⟩
  · skip
    by_cases c1 : 100 < e.size
    · have b2 : ¬ (m.size : Int) > 100 := by omega
      have b3 : (e.size : Int) > 100 := by omega
      have hB : Below W.heap.size W (W.alloc (.cells #[.int .i64 r.kind, .int .u64 (r.seq : Int), .int .u64 (r.data : Int)] 36)) := ((Below.refl _ _).alloc (Nat.le_refl _) _)
      have xr := (Box.new 36 W [.int .i64 r.kind, .int .u64 (r.seq : Int), .int .u64 (r.data : Int)])
      go_enter Try.func12, Try.ntmps12
      go_wp2_with fail
      refine (shown07 _).mono ?_
      rintro e V1 ⟨rfl, hk⟩
      replace hB := below_seq hB hk
      replace xr := xr.seq hk
      clear hk
      have xr0 := xr.cell 0 rfl
      have xrz0 := xr.frozen 0
      have xr1 := xr.cell 1 rfl
      have xrz1 := xr.frozen 1
      have xr2 := xr.cell 2 rfl
      have xrz2 := xr.frozen 2
      go_wp2
      go_ret
      exact ⟨rfl, hB⟩
    · skip
      by_cases c2 : r.kind < 1
      · have b2 : ¬ (m.size : Int) > 100 := by omega
        have b4 : ¬ (e.size : Int) > 100 := by omega
        have hB : Below W.heap.size W (W.alloc (.cells #[.int .i64 r.kind, .int .u64 (r.seq : Int), .int .u64 (r.data : Int)] 36)) := ((Below.refl _ _).alloc (Nat.le_refl _) _)
        have xr := (Box.new 36 W [.int .i64 r.kind, .int .u64 (r.seq : Int), .int .u64 (r.data : Int)])
        go_enter Try.func12, Try.ntmps12
        go_wp2_with fail
        refine (shown07 _).mono ?_
        rintro e V1 ⟨rfl, hk⟩
        replace hB := below_seq hB hk
        replace xr := xr.seq hk
        clear hk
        have xr0 := xr.cell 0 rfl
        have xrz0 := xr.frozen 0
        have xr1 := xr.cell 1 rfl
        have xrz1 := xr.frozen 1
        have xr2 := xr.cell 2 rfl
        have xrz2 := xr.frozen 2
        go_wp2
        go_ret
        exact ⟨rfl, hB⟩
      · skip
        by_cases c3 : 3 < r.kind
        · have b2 : ¬ (m.size : Int) > 100 := by omega
          have b4 : ¬ (e.size : Int) > 100 := by omega
          have d1 : ¬ r.kind < 1 := by omega
          have d2 : r.kind > 3 := by omega
          have hB : Below W.heap.size W (W.alloc (.cells #[.int .i64 r.kind, .int .u64 (r.seq : Int), .int .u64 (r.data : Int)] 36)) := ((Below.refl _ _).alloc (Nat.le_refl _) _)
          have xr := (Box.new 36 W [.int .i64 r.kind, .int .u64 (r.seq : Int), .int .u64 (r.data : Int)])
          go_enter Try.func12, Try.ntmps12
          go_wp2_with fail
          refine (shown07 _).mono ?_
          rintro e V1 ⟨rfl, hk⟩
          replace hB := below_seq hB hk
          replace xr := xr.seq hk
          clear hk
          have xr0 := xr.cell 0 rfl
          have xrz0 := xr.frozen 0
          have xr1 := xr.cell 1 rfl
          have xrz1 := xr.frozen 1
          have xr2 := xr.cell 2 rfl
          have xrz2 := xr.frozen 2
          go_wp2
          go_ret
          exact ⟨rfl, hB⟩
        · skip
          have b2 : ¬ (m.size : Int) > 100 := by omega
          have b4 : ¬ (e.size : Int) > 100 := by omega
          have d1 : ¬ r.kind < 1 := by omega
          have d3 : ¬ r.kind > 3 := by omega
          have kr : r.known := ⟨by omega, by omega⟩
          have hz : (bs (bodyL r)).size = 22 := by rw [bs_size, bodyL_length]
          have HB := Lib.hid (fun (W : World) => own07Body r W hr)
          have HM := Lib.hid (fun (W : World) => own07Mark W)
          have HT1 := Lib.hid (fun (W : World) => refTorn (blankT 22) (bs (bodyL r)) m W (by rw [blankT_size]; decide) (by rw [hz]; unfold maxLen; decide) (by unfold maxLen; omega))
          have zt : (tornB (blankT 22) (bs (bodyL r)) m).size = 22 := by rw [tornB_size, blankT_size]
          have zs : (tornB (blankT 22) (bs (bodyL r)) m ++ ⟨#[255, 255]⟩).size = 24 := by rw [ByteArray.size_append, zt]; rfl
          have HG := Lib.hid (fun (W : World) => (show Calls Try.prog 33 #[.string (tornB (blankT 22) (bs (bodyL r)) m ++ ⟨#[255, 255]⟩)] W fun e W' => e = .returned (.bool false) ∧ Below W.heap.size W W' from by
            have h := own07Good (tornB (blankT 22) (bs (bodyL r)) m ++ ⟨#[255, 255]⟩) W (by rw [zs]; decide)
            have hd := dec_noMark (l := bl (tornB (blankT 22) (bs (bodyL r)) m)) (m := [255, 255]) (by rw [bl_length, zt]) (by decide)
            rw [bl_append, show bl (⟨#[255, 255]⟩ : ByteArray) = [255, 255] from rfl, beq_eq_false_iff_ne.2 hd] at h
            exact h))
          have HT2 := Lib.hid (fun (W : World) => refTorn ⟨#[255, 255]⟩ (bs markL) e W (by decide) (by decide) (by unfold maxLen; omega))
          have zm : (tornB ⟨#[255, 255]⟩ (bs markL) e).size = 2 := by rw [tornB_size]; rfl
          have zn : (bs (bodyL r) ++ tornB ⟨#[255, 255]⟩ (bs markL) e).size = 24 := by rw [ByteArray.size_append, hz, zm]
          have hdec := own07Decode (bs (bodyL r) ++ tornB ⟨#[255, 255]⟩ (bs markL) e)
          have hdb := dec_body kr (m := bl (tornB ⟨#[255, 255]⟩ (bs markL) e)) (by rw [bl_length, zm])
          rw [bl_append, bl_bs] at hdec
          have o1 : ¬ 9223372036854775807 < (tornB (blankT 22) (bs (bodyL r)) m).size + 2 := by omega
          have o2 : ¬ 9223372036854775807 < (bs (bodyL r)).size + (tornB ⟨#[255, 255]⟩ (bs markL) e).size := by omega
          by_cases hm : bl (tornB ⟨#[255, 255]⟩ (bs markL) e) = markL
          · have HD := Lib.hid (fun (W : World) => (show Calls Try.prog 31 #[.string (bs (bodyL r) ++ tornB ⟨#[255, 255]⟩ (bs markL) e)] W fun e W' => e = .returned (.tuple #[.agg #[.int .i64 r.kind, .int .u64 (r.seq : Int), .int .u64 (r.data : Int)], .int .i64 0]) ∧ Below W.heap.size W W' from by
              have h := hdec W (by rw [zn]; decide)
              rw [hdb, if_pos hm, hm] at h
              have q : decR (bodyL r ++ markL) = r := decR_body hr kr
              rw [q] at h
              exact h))
            have n1 := beqT (show tornB ⟨#[255, 255]⟩ (bs markL) e = bs markL from bl_inj (by rw [hm, bl_bs]))
            clear hdec hdb hm hz zt zs zm zn kr
            generalize bs (bodyL r) = bd at *
            generalize tornB ⟨#[255, 255]⟩ (bs markL) e = M at *
            generalize hTT : tornB (blankT 22) bd m = T at *
            clear hTT
            have hB : Below W.heap.size W (W.alloc (.cells #[.int .i64 r.kind, .int .u64 (r.seq : Int), .int .u64 (r.data : Int)] 36)) := ((Below.refl _ _).alloc (Nat.le_refl _) _)
            have xr := (Box.new 36 W [.int .i64 r.kind, .int .u64 (r.seq : Int), .int .u64 (r.data : Int)])
            go_enter Try.func12, Try.ntmps12
            go_wp2_with fail
            refine (shown07 _).mono ?_
            rintro e V1 ⟨rfl, hk⟩
            replace hB := below_seq hB hk
            replace xr := xr.seq hk
            clear hk
            have xr0 := xr.cell 0 rfl
            have xrz0 := xr.frozen 0
            have xr1 := xr.cell 1 rfl
            have xrz1 := xr.frozen 1
            have xr2 := xr.cell 2 rfl
            have xrz2 := xr.frozen 2
            go_wp2
            go_loopw [7, 8] (fun v i w => ∃ k : Nat, k ≤ 22 ∧ i = .int .i64 k ∧ v = .string (blankT k) ∧ Box 36 w W.heap.size [.int .i64 r.kind, .int .u64 (r.seq : Int), .int .u64 (r.data : Int)] ∧ Below W.heap.size W w) (fun _ i _ => 22 - (intOf i).toNat)
            case atStart => exact ⟨0, by omega, rfl, rfl, xr, hB⟩
            case round =>
              clear xr0 xrz0 xr1 xrz1 xr2 xrz2
              clear xr hB
              obtain ⟨k, hk, rfl, rfl, xr, hB⟩ := hrel
              have hz2 : (blankT k).size ≤ 22 := by rw [blankT_size]; exact hk
              by_cases hlt : k < 22
              · have HP := Lib.hid (blankT_succ k)
                go_wp2
                go_roundw
                case rel => exact ⟨k + 1, by omega, by go_num, by rw [← HP.out], xr, hB⟩
                case measure => simp [intOf]; omega
              · obtain rfl : k = 22 := by omega
                clear hz2
                generalize blankT 22 = BL at *
                have xr0 := xr.cell 0 rfl
                have xrz0 := xr.frozen 0
                have xr1 := xr.cell 1 rfl
                have xrz1 := xr.frozen 1
                have xr2 := xr.cell 2 rfl
                have xrz2 := xr.frozen 2
                go_wp2_with fail
                refine (HB.out _).mono ?_
                rintro e V2 ⟨rfl, hk⟩
                clear xr0 xrz0 xr1 xrz1 xr2 xrz2
                replace hB := below_seq hB hk
                replace xr := xr.seq hk
                clear hk
                have xr0 := xr.cell 0 rfl
                have xrz0 := xr.frozen 0
                have xr1 := xr.cell 1 rfl
                have xrz1 := xr.frozen 1
                have xr2 := xr.cell 2 rfl
                have xrz2 := xr.frozen 2
                go_wp2_with fail
                refine (HT1.out _).mono ?_
                rintro e V3 ⟨rfl, hk⟩
                clear xr0 xrz0 xr1 xrz1 xr2 xrz2
                replace hB := below_seq hB hk
                replace xr := xr.seq hk
                clear hk
                have xr0 := xr.cell 0 rfl
                have xrz0 := xr.frozen 0
                have xr1 := xr.cell 1 rfl
                have xrz1 := xr.frozen 1
                have xr2 := xr.cell 2 rfl
                have xrz2 := xr.frozen 2
                go_wp2_with fail
                refine (HG.out _).mono ?_
                rintro e V4 ⟨rfl, hk⟩
                clear xr0 xrz0 xr1 xrz1 xr2 xrz2
                replace hB := below_seq hB hk
                replace xr := xr.seq hk
                clear hk
                have xr0 := xr.cell 0 rfl
                have xrz0 := xr.frozen 0
                have xr1 := xr.cell 1 rfl
                have xrz1 := xr.frozen 1
                have xr2 := xr.cell 2 rfl
                have xrz2 := xr.frozen 2
                go_wp2_with fail
                refine (HM.out _).mono ?_
                rintro e V5 ⟨rfl, hk⟩
                clear xr0 xrz0 xr1 xrz1 xr2 xrz2
                replace hB := below_seq hB hk
                replace xr := xr.seq hk
                clear hk
                have xr0 := xr.cell 0 rfl
                have xrz0 := xr.frozen 0
                have xr1 := xr.cell 1 rfl
                have xrz1 := xr.frozen 1
                have xr2 := xr.cell 2 rfl
                have xrz2 := xr.frozen 2
                go_wp2_with fail
                refine (HT2.out _).mono ?_
                rintro e V6 ⟨rfl, hk⟩
                clear xr0 xrz0 xr1 xrz1 xr2 xrz2
                replace hB := below_seq hB hk
                replace xr := xr.seq hk
                clear hk
                have xr0 := xr.cell 0 rfl
                have xrz0 := xr.frozen 0
                have xr1 := xr.cell 1 rfl
                have xrz1 := xr.frozen 1
                have xr2 := xr.cell 2 rfl
                have xrz2 := xr.frozen 2
                go_wp2_with fail
                refine (HB.out _).mono ?_
                rintro e V7 ⟨rfl, hk⟩
                clear xr0 xrz0 xr1 xrz1 xr2 xrz2
                replace hB := below_seq hB hk
                replace xr := xr.seq hk
                clear hk
                have xr0 := xr.cell 0 rfl
                have xrz0 := xr.frozen 0
                have xr1 := xr.cell 1 rfl
                have xrz1 := xr.frozen 1
                have xr2 := xr.cell 2 rfl
                have xrz2 := xr.frozen 2
                go_wp2_with fail
                refine (HD.out _).mono ?_
                rintro e V8 ⟨rfl, hk⟩
                clear xr0 xrz0 xr1 xrz1 xr2 xrz2
                replace hB := below_seq hB hk
                replace xr := xr.seq hk
                clear hk
                have xd := Box.new 36 V8 [.int .i64 r.kind, .int .u64 (r.seq : Int), .int .u64 (r.data : Int)]
                have ne_xd_xr : V8.heap.size ≠ W.heap.size := Nat.ne_of_gt xr.lt
                have le_xd : W.heap.size ≤ V8.heap.size := hB.size
                replace xr := xr.alloc (.cells #[.int .i64 r.kind, .int .u64 (r.seq : Int), .int .u64 (r.data : Int)] 36)
                replace hB := hB.alloc hB.size (.cells #[.int .i64 r.kind, .int .u64 (r.seq : Int), .int .u64 (r.data : Int)] 36)
                have xr0 := xr.cell 0 rfl
                have xrz0 := xr.frozen 0
                have xr1 := xr.cell 1 rfl
                have xrz1 := xr.frozen 1
                have xr2 := xr.cell 2 rfl
                have xrz2 := xr.frozen 2
                have xd0 := xd.cell 0 rfl
                have xdz0 := xd.frozen 0
                have xd1 := xd.cell 1 rfl
                have xdz1 := xd.frozen 1
                have xd2 := xd.cell 2 rfl
                have xdz2 := xd.frozen 2
                go_wp2_with fail
                refine (HM.out _).mono ?_
                rintro e V9 ⟨rfl, hk⟩
                clear xr0 xrz0 xr1 xrz1 xr2 xrz2 xd0 xdz0 xd1 xdz1 xd2 xdz2
                replace hB := below_seq hB hk
                replace xr := xr.seq hk
                replace xd := xd.seq hk
                clear hk
                have xr0 := xr.cell 0 rfl
                have xrz0 := xr.frozen 0
                have xr1 := xr.cell 1 rfl
                have xrz1 := xr.frozen 1
                have xr2 := xr.cell 2 rfl
                have xrz2 := xr.frozen 2
                have xd0 := xd.cell 0 rfl
                have xdz0 := xd.frozen 0
                have xd1 := xd.cell 1 rfl
                have xdz1 := xd.frozen 1
                have xd2 := xd.cell 2 rfl
                have xdz2 := xd.frozen 2
                go_wp2
                go_ret
                exact ⟨rfl, hB⟩
          · have HD := Lib.hid (fun (W : World) => (show Calls Try.prog 31 #[.string (bs (bodyL r) ++ tornB ⟨#[255, 255]⟩ (bs markL) e)] W fun e W' => e = .returned (.tuple #[.agg #[.int .i64 0, .int .u64 0, .int .u64 0], .int .i64 9]) ∧ Below W.heap.size W W' from by
              have h := hdec W (by rw [zn]; decide)
              rw [hdb, if_neg hm] at h
              have q : decR (bodyL r ++ bl (tornB ⟨#[255, 255]⟩ (bs markL) e)) = ⟨0, 0, 0⟩ := if_neg (by rw [hdb, if_neg hm]; decide)
              rw [q] at h
              exact h))
            have n1 := beqF (a := tornB ⟨#[255, 255]⟩ (bs markL) e) (b := bs markL) (fun h => hm (by rw [h, bl_bs]))
            clear hdec hdb hm hz zt zs zm zn kr
            generalize bs (bodyL r) = bd at *
            generalize tornB ⟨#[255, 255]⟩ (bs markL) e = M at *
            generalize hTT : tornB (blankT 22) bd m = T at *
            clear hTT
            have hB : Below W.heap.size W (W.alloc (.cells #[.int .i64 r.kind, .int .u64 (r.seq : Int), .int .u64 (r.data : Int)] 36)) := ((Below.refl _ _).alloc (Nat.le_refl _) _)
            have xr := (Box.new 36 W [.int .i64 r.kind, .int .u64 (r.seq : Int), .int .u64 (r.data : Int)])
            go_enter Try.func12, Try.ntmps12
            go_wp2_with fail
            refine (shown07 _).mono ?_
            rintro e V1 ⟨rfl, hk⟩
            replace hB := below_seq hB hk
            replace xr := xr.seq hk
            clear hk
            have xr0 := xr.cell 0 rfl
            have xrz0 := xr.frozen 0
            have xr1 := xr.cell 1 rfl
            have xrz1 := xr.frozen 1
            have xr2 := xr.cell 2 rfl
            have xrz2 := xr.frozen 2
            go_wp2
            go_loopw [7, 8] (fun v i w => ∃ k : Nat, k ≤ 22 ∧ i = .int .i64 k ∧ v = .string (blankT k) ∧ Box 36 w W.heap.size [.int .i64 r.kind, .int .u64 (r.seq : Int), .int .u64 (r.data : Int)] ∧ Below W.heap.size W w) (fun _ i _ => 22 - (intOf i).toNat)
            case atStart => exact ⟨0, by omega, rfl, rfl, xr, hB⟩
            case round =>
              clear xr0 xrz0 xr1 xrz1 xr2 xrz2
              clear xr hB
              obtain ⟨k, hk, rfl, rfl, xr, hB⟩ := hrel
              have hz2 : (blankT k).size ≤ 22 := by rw [blankT_size]; exact hk
              by_cases hlt : k < 22
              · have HP := Lib.hid (blankT_succ k)
                go_wp2
                go_roundw
                case rel => exact ⟨k + 1, by omega, by go_num, by rw [← HP.out], xr, hB⟩
                case measure => simp [intOf]; omega
              · obtain rfl : k = 22 := by omega
                clear hz2
                generalize blankT 22 = BL at *
                have xr0 := xr.cell 0 rfl
                have xrz0 := xr.frozen 0
                have xr1 := xr.cell 1 rfl
                have xrz1 := xr.frozen 1
                have xr2 := xr.cell 2 rfl
                have xrz2 := xr.frozen 2
                go_wp2_with fail
                refine (HB.out _).mono ?_
                rintro e V2 ⟨rfl, hk⟩
                clear xr0 xrz0 xr1 xrz1 xr2 xrz2
                replace hB := below_seq hB hk
                replace xr := xr.seq hk
                clear hk
                have xr0 := xr.cell 0 rfl
                have xrz0 := xr.frozen 0
                have xr1 := xr.cell 1 rfl
                have xrz1 := xr.frozen 1
                have xr2 := xr.cell 2 rfl
                have xrz2 := xr.frozen 2
                go_wp2_with fail
                refine (HT1.out _).mono ?_
                rintro e V3 ⟨rfl, hk⟩
                clear xr0 xrz0 xr1 xrz1 xr2 xrz2
                replace hB := below_seq hB hk
                replace xr := xr.seq hk
                clear hk
                have xr0 := xr.cell 0 rfl
                have xrz0 := xr.frozen 0
                have xr1 := xr.cell 1 rfl
                have xrz1 := xr.frozen 1
                have xr2 := xr.cell 2 rfl
                have xrz2 := xr.frozen 2
                go_wp2_with fail
                refine (HG.out _).mono ?_
                rintro e V4 ⟨rfl, hk⟩
                clear xr0 xrz0 xr1 xrz1 xr2 xrz2
                replace hB := below_seq hB hk
                replace xr := xr.seq hk
                clear hk
                have xr0 := xr.cell 0 rfl
                have xrz0 := xr.frozen 0
                have xr1 := xr.cell 1 rfl
                have xrz1 := xr.frozen 1
                have xr2 := xr.cell 2 rfl
                have xrz2 := xr.frozen 2
                go_wp2_with fail
                refine (HM.out _).mono ?_
                rintro e V5 ⟨rfl, hk⟩
                clear xr0 xrz0 xr1 xrz1 xr2 xrz2
                replace hB := below_seq hB hk
                replace xr := xr.seq hk
                clear hk
                have xr0 := xr.cell 0 rfl
                have xrz0 := xr.frozen 0
                have xr1 := xr.cell 1 rfl
                have xrz1 := xr.frozen 1
                have xr2 := xr.cell 2 rfl
                have xrz2 := xr.frozen 2
                go_wp2_with fail
                refine (HT2.out _).mono ?_
                rintro e V6 ⟨rfl, hk⟩
                clear xr0 xrz0 xr1 xrz1 xr2 xrz2
                replace hB := below_seq hB hk
                replace xr := xr.seq hk
                clear hk
                have xr0 := xr.cell 0 rfl
                have xrz0 := xr.frozen 0
                have xr1 := xr.cell 1 rfl
                have xrz1 := xr.frozen 1
                have xr2 := xr.cell 2 rfl
                have xrz2 := xr.frozen 2
                go_wp2_with fail
                refine (HB.out _).mono ?_
                rintro e V7 ⟨rfl, hk⟩
                clear xr0 xrz0 xr1 xrz1 xr2 xrz2
                replace hB := below_seq hB hk
                replace xr := xr.seq hk
                clear hk
                have xr0 := xr.cell 0 rfl
                have xrz0 := xr.frozen 0
                have xr1 := xr.cell 1 rfl
                have xrz1 := xr.frozen 1
                have xr2 := xr.cell 2 rfl
                have xrz2 := xr.frozen 2
                go_wp2_with fail
                refine (HD.out _).mono ?_
                rintro e V8 ⟨rfl, hk⟩
                clear xr0 xrz0 xr1 xrz1 xr2 xrz2
                replace hB := below_seq hB hk
                replace xr := xr.seq hk
                clear hk
                have xd := Box.new 36 V8 [.int .i64 0, .int .u64 0, .int .u64 0]
                have ne_xd_xr : V8.heap.size ≠ W.heap.size := Nat.ne_of_gt xr.lt
                have le_xd : W.heap.size ≤ V8.heap.size := hB.size
                replace xr := xr.alloc (.cells #[.int .i64 0, .int .u64 0, .int .u64 0] 36)
                replace hB := hB.alloc hB.size (.cells #[.int .i64 0, .int .u64 0, .int .u64 0] 36)
                have xr0 := xr.cell 0 rfl
                have xrz0 := xr.frozen 0
                have xr1 := xr.cell 1 rfl
                have xrz1 := xr.frozen 1
                have xr2 := xr.cell 2 rfl
                have xrz2 := xr.frozen 2
                have xd0 := xd.cell 0 rfl
                have xdz0 := xd.frozen 0
                have xd1 := xd.cell 1 rfl
                have xdz1 := xd.frozen 1
                have xd2 := xd.cell 2 rfl
                have xdz2 := xd.frozen 2
                go_wp2_with fail
                refine (HM.out _).mono ?_
                rintro e V9 ⟨rfl, hk⟩
                clear xr0 xrz0 xr1 xrz1 xr2 xrz2 xd0 xdz0 xd1 xdz1 xd2 xdz2
                replace hB := below_seq hB hk
                replace xr := xr.seq hk
                replace xd := xd.seq hk
                clear hk
                have xr0 := xr.cell 0 rfl
                have xrz0 := xr.frozen 0
                have xr1 := xr.cell 1 rfl
                have xrz1 := xr.frozen 1
                have xr2 := xr.cell 2 rfl
                have xrz2 := xr.frozen 2
                have xd0 := xd.cell 0 rfl
                have xdz0 := xd.frozen 0
                have xd1 := xd.cell 1 rfl
                have xdz1 := xd.frozen 1
                have xd2 := xd.cell 2 rfl
                have xdz2 := xd.frozen 2
                go_wp2
                go_ret
                exact ⟨rfl, hB⟩

theorem own : ownKnob Try.prog.godebug = none := by kernel_rfl

set_option maxRecDepth 100000 in
theorem lifted (os : Os) (started : os.Started) (H : Type) (enc : TypeId × Value → H) :
    ReturnsInHanded {} Try.checked os 12 .any (Rows.recordTornSpec.pre6 enc Try.prog Try.f12 Rows.recordTornRow.domain false) (Rows.recordTornSpec.post enc Try.prog Try.f12 false true false false) := by
  refine returnsInHanded_of_change (C := Try.checked) own started (by kernel_rfl) Try.func12
    (ChangeSpec.witness6 (enc := enc) (C := Try.checked) false ⟨#[], #[.agg #[.int .i64 0, .int .u64 0, .int .u64 0], .string ⟨#[]⟩, .string ⟨#[]⟩], []⟩ 8 (by kernel_rfl) (by kernel_rfl) (by kernel_rfl) (by kernel_rfl)) ?_
  intro W base args ds gs before hval hW _ _
  have hW' := hW
  obtain ⟨p, q, hA0, hV, rfl, hfz, hnd⟩ := hW
  have hA : DataW.TrodAll enc Try.prog W 0 (fun _ => true) true Try.f12.params.toList args.toList ds p := hA0
  rw [Try.params12] at hA hval
  obtain ⟨v0, vs0, d0, ds0, p0, q0, hargs, rfl, rfl, h0, r0⟩ := trodAll_cons hA
  obtain ⟨v1, vs1, d1, ds1, p1, q1, rfl, rfl, rfl, h1, r1⟩ := trodAll_cons r0
  obtain ⟨v2, vs2, d2, ds2, p2, q2, rfl, rfl, rfl, h2, r2⟩ := trodAll_cons r1
  obtain ⟨rfl, rfl, rfl⟩ := trodAll_nil r2
  obtain rfl : args = #[v0, v1, v2] := by cases args; simp_all
  obtain ⟨rfl, rfl⟩ := trodVars_none hV
  have k0 := h0
  obtain ⟨s0, rfl, hs0⟩ := open_rec (hval 0 36 v0 rfl rfl) h0
  obtain ⟨s1, rfl, rfl, rfl, hs1⟩ := open_string Try.underlying9 (hval 1 9 v1 rfl rfl) h1
  obtain ⟨s2, rfl, rfl, rfl, hs2⟩ := open_string Try.underlying9 (hval 2 9 v2 rfl rfl) h2
  clear hA0
  simp only [List.append_nil] at hW'
  refine (walk s0 s1 s2 W hs0 hs1 hs2).mono fun e W' ⟨he, hB⟩ => ?_
  subst he
  exact ⟨_, rfl, ⟨_, _, _, [], _, [], hW', trodAll_cons_mk (shut_bool Try.underlying4 _) trodAll_mk0, (trodAll_cons_mk (Below.trod Try.laidOut (by kernel_rfl) (of_decide_eq_true (by kernel_rfl)) k0 hB (fun x hx => by simpa using hW'.lt x (by simp [hx]))) (trodAll_cons_mk (shut_string Try.underlying9 hs1) (trodAll_cons_mk (shut_string Try.underlying9 hs2) trodAll_mk0))), rfl, hB.frame _, fun h => by cases h⟩⟩

theorem holds : Rows.RecordTornSaid :=
  OpenClaim.holds_of_wide 12 Try.f12 rfl rfl rfl rfl rfl rfl rfl ⟨rfl, rfl, rfl, rfl, rfl⟩ rfl rfl rfl rfl rfl (by kernel_rfl) Try.func12 (by kernel_rfl)
    (of_decide_eq_true (by kernel_rfl)) (by unfold Func.isWrapper; first | (rw [if_pos (by decide +kernel)]; kernel_rfl) | (rw [if_neg (by decide +kernel)]; exact ⟨rfl, rfl⟩))
    (fun os started H enc _ => lifted os started H enc)
end Go.Proofs.Ytoemjfjmpmngeac.RecordTorn

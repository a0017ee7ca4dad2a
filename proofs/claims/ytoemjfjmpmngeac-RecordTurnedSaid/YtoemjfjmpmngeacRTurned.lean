/- A good record in which some bits are turned, within four bytes that stand side by side, is good no more, or the same one (RecordTurned); no condition. -/
import Derived.Test.YtoemjfjmpmngeacRecLaw
import Derived.Deep.RegionHeld3
import Derived.WalkLawsBesides
import Derived.WalkSpells
import Derived.IntWalk
import Derived.Lib.Hide
import Derived.Test.YtoemjfjmpmngeacBox
import Derived.Test.YtoemjfjmpmngeacTurn
import Derived.ProofKit
import Derived.OpenShut
import Derived.ChangeMaps5
import Derived.Test.YtoemjfjmpmngeacInts
namespace Go.Proofs.Ytoemjfjmpmngeac.RecordTurned
open Go.ChangeShapes Go.WideShapes Go.ChangeAt Go.RowKit Go.ChangeMaps
set_option linter.unusedVariables false
set_option linter.unusedSimpArgs false
attribute [local go_sem] b8_xor

set_option maxRecDepth 100000 in
set_option maxHeartbeats 16000000 in
theorem walk (r : Rec) (q : Int) (a : UInt8) (b : UInt8) (c : UInt8) (d : UInt8) (W : World) (hr : r.ok) (hq : -9223372036854775808 ≤ q ∧ q ≤ 9223372036854775807) :
    Calls Try.prog 14 #[.agg #[.int .i64 r.kind, .int .u64 (r.seq : Int), .int .u64 (r.data : Int)], .int .i64 q, .int .u8 (a.toNat : Int), .int .u8 (b.toNat : Int), .int .u8 (c.toNat : Int), .int .u8 (d.toNat : Int)] W fun e W' => e = .returned (.bool true) ∧ Below W.heap.size W W' := by
  by_cases c0 : r.kind < 1
  · have hB : Below W.heap.size W (W.alloc (.cells #[.int .i64 r.kind, .int .u64 (r.seq : Int), .int .u64 (r.data : Int)] 36)) := ((Below.refl _ _).alloc (Nat.le_refl _) _)
    have xr := (Box.new 36 W [.int .i64 r.kind, .int .u64 (r.seq : Int), .int .u64 (r.data : Int)])
    go_enter Try.func14, Try.ntmps14
    go_wp2_with fail
    refine (shown07 _).mono ?_
    rintro e V1 ⟨rfl, hk⟩
    replace hB := below_seq hB hk
    replace xr := xr.seq hk
    clear hk
    have xr0 := xr.cell 0 rfl
    have xrz0 := xr.frozen 0
    have xr1 := xr.cell 1 rfl
    have xrz1 := xr.frozen 1
    have xr2 := xr.cell 2 rfl
    have xrz2 := xr.frozen 2
    go_wp2
    go_ret
    exact ⟨rfl, hB⟩
  · skip
    by_cases c1 : 3 < r.kind
    · have d1 : ¬ r.kind < 1 := by omega
      have d2 : r.kind > 3 := by omega
      have hB : Below W.heap.size W (W.alloc (.cells #[.int .i64 r.kind, .int .u64 (r.seq : Int), .int .u64 (r.data : Int)] 36)) := ((Below.refl _ _).alloc (Nat.le_refl _) _)
      have xr := (Box.new 36 W [.int .i64 r.kind, .int .u64 (r.seq : Int), .int .u64 (r.data : Int)])
      go_enter Try.func14, Try.ntmps14
      go_wp2_with fail
      refine (shown07 _).mono ?_
      rintro e V1 ⟨rfl, hk⟩
      replace hB := below_seq hB hk
      replace xr := xr.seq hk
      clear hk
      have xr0 := xr.cell 0 rfl
      have xrz0 := xr.frozen 0
      have xr1 := xr.cell 1 rfl
      have xrz1 := xr.frozen 1
      have xr2 := xr.cell 2 rfl
      have xrz2 := xr.frozen 2
      go_wp2
      go_ret
      exact ⟨rfl, hB⟩
    · skip
      by_cases c2 : q < 0
      · have d1 : ¬ r.kind < 1 := by omega
        have d3 : ¬ r.kind > 3 := by omega
        have hB : Below W.heap.size W (W.alloc (.cells #[.int .i64 r.kind, .int .u64 (r.seq : Int), .int .u64 (r.data : Int)] 36)) := ((Below.refl _ _).alloc (Nat.le_refl _) _)
        have xr := (Box.new 36 W [.int .i64 r.kind, .int .u64 (r.seq : Int), .int .u64 (r.data : Int)])
        go_enter Try.func14, Try.ntmps14
        go_wp2_with fail
        refine (shown07 _).mono ?_
        rintro e V1 ⟨rfl, hk⟩
        replace hB := below_seq hB hk
        replace xr := xr.seq hk
        clear hk
        have xr0 := xr.cell 0 rfl
        have xrz0 := xr.frozen 0
        have xr1 := xr.cell 1 rfl
        have xrz1 := xr.frozen 1
        have xr2 := xr.cell 2 rfl
        have xrz2 := xr.frozen 2
        go_wp2
        go_ret
        exact ⟨rfl, hB⟩
      · skip
        by_cases c3 : 20 < q
        · have d1 : ¬ r.kind < 1 := by omega
          have d3 : ¬ r.kind > 3 := by omega
          have d4 : ¬ q < 0 := by omega
          have d5 : q > 20 := by omega
          have hB : Below W.heap.size W (W.alloc (.cells #[.int .i64 r.kind, .int .u64 (r.seq : Int), .int .u64 (r.data : Int)] 36)) := ((Below.refl _ _).alloc (Nat.le_refl _) _)
          have xr := (Box.new 36 W [.int .i64 r.kind, .int .u64 (r.seq : Int), .int .u64 (r.data : Int)])
          go_enter Try.func14, Try.ntmps14
          go_wp2_with fail
          refine (shown07 _).mono ?_
          rintro e V1 ⟨rfl, hk⟩
          replace hB := below_seq hB hk
          replace xr := xr.seq hk
          clear hk
          have xr0 := xr.cell 0 rfl
          have xrz0 := xr.frozen 0
          have xr1 := xr.cell 1 rfl
          have xrz1 := xr.frozen 1
          have xr2 := xr.cell 2 rfl
          have xrz2 := xr.frozen 2
          go_wp2
          go_ret
          exact ⟨rfl, hB⟩
        · skip
          have d1 : ¬ r.kind < 1 := by omega
          have d3 : ¬ r.kind > 3 := by omega
          have d4 : ¬ q < 0 := by omega
          have d6 : ¬ q > 20 := by omega
          obtain ⟨p, rfl⟩ := Int.eq_ofNat_of_zero_le (by omega : 0 ≤ q)
          have hp : p ≤ 20 := by omega
          have kr : r.known := ⟨by omega, by omega⟩
          have HB := Lib.hid (fun (W : World) => own07Encode r W hr)
          have hz : (bs (encL r)).size = 24 := by rw [bs_size, encL_length]
          have HE := Lib.hid (show bs (encL r) = bs (encL r) from rfl)
          have hdE : decE (bl (bs (encL r))) = 0 := by rw [bl_bs]; exact (dec_body kr (m := markL) rfl).trans (if_pos rfl)
          have hdR : decR (bl (bs (encL r))) = r := by rw [bl_bs]; exact decR_body hr kr
          clear HE c2 c3 hq kr
          generalize bs (encL r) = E at *
          have HZ := Lib.hid (turnL_zero E (ys a b c d) p)
          have hHE := Lib.hid hdE
          have hHR := Lib.hid hdR
          have hzz := Lib.hid hz
          clear hdE hdR
          have hB : Below W.heap.size W (W.alloc (.cells #[.int .i64 r.kind, .int .u64 (r.seq : Int), .int .u64 (r.data : Int)] 36)) := ((Below.refl _ _).alloc (Nat.le_refl _) _)
          have xr := (Box.new 36 W [.int .i64 r.kind, .int .u64 (r.seq : Int), .int .u64 (r.data : Int)])
          go_enter Try.func14, Try.ntmps14
          go_wp2_with fail
          refine (shown07 _).mono ?_
          rintro e V1 ⟨rfl, hk⟩
          replace hB := below_seq hB hk
          replace xr := xr.seq hk
          clear hk
          have xr0 := xr.cell 0 rfl
          have xrz0 := xr.frozen 0
          have xr1 := xr.cell 1 rfl
          have xrz1 := xr.frozen 1
          have xr2 := xr.cell 2 rfl
          have xrz2 := xr.frozen 2
          go_wp2_with fail
          refine (HB.out _).mono ?_
          rintro e V2 ⟨rfl, hk⟩
          clear xr0 xrz0 xr1 xrz1 xr2 xrz2
          replace hB := below_seq hB hk
          replace xr := xr.seq hk
          clear hk
          have xr0 := xr.cell 0 rfl
          have xrz0 := xr.frozen 0
          have xr1 := xr.cell 1 rfl
          have xrz1 := xr.frozen 1
          have xr2 := xr.cell 2 rfl
          have xrz2 := xr.frozen 2
          have hcv := run_bytes_of_string (P := Try.prog) V2 9 52 5 E Try.underlying9 Try.underlying52 Try.underlying5
          go_wp2
          clear xr0 xrz0 xr1 xrz1 xr2 xrz2
          have bT := BRow.ofString V2 E 5 (grownCap V2 24 0 5) (bytesRow E (grownCap V2 24 0 5)).size (bytesRow_size _ _)
          have hg0 : W.heap.size ≤ V2.heap.size := hB.size
          have lt_xr : W.heap.size < V2.heap.size := xr.lt
          replace xr := xr.alloc (.cells (bytesRow E (grownCap V2 24 0 5)) 5 ((bytesRow E (grownCap V2 24 0 5)).size, (bytesRow E (grownCap V2 24 0 5)).size + 1))
          replace hB := hB.alloc hB.size (.cells (bytesRow E (grownCap V2 24 0 5)) 5 ((bytesRow E (grownCap V2 24 0 5)).size, (bytesRow E (grownCap V2 24 0 5)).size + 1))
          have bY := BRow.lit (V2.alloc (.cells (bytesRow E (grownCap V2 24 0 5)) 5 ((bytesRow E (grownCap V2 24 0 5)).size, (bytesRow E (grownCap V2 24 0 5)).size + 1))) (ys a b c d) 5
          rw [show (((ys a b c d)).map b8v).toArray = #[.int .u8 (a.toNat : Int), .int .u8 (b.toNat : Int), .int .u8 (c.toNat : Int), .int .u8 (d.toNat : Int)] from rfl, World.size_alloc] at bY
          replace bT := bT.alloc (.cells #[.int .u8 (a.toNat : Int), .int .u8 (b.toNat : Int), .int .u8 (c.toNat : Int), .int .u8 (d.toNat : Int)] 5)
          replace hB := hB.alloc (by simp; omega) (.cells #[.int .u8 (a.toNat : Int), .int .u8 (b.toNat : Int), .int .u8 (c.toNat : Int), .int .u8 (d.toNat : Int)] 5)
          replace xr := xr.alloc (.cells #[.int .u8 (a.toNat : Int), .int .u8 (b.toNat : Int), .int .u8 (c.toNat : Int), .int .u8 (d.toNat : Int)] 5)
          replace bY := bY.drew
          replace bT := bT.drew
          replace hB := hB.drew
          replace xr := xr.drew
          clear hcv
          generalize ((V2.alloc (.cells (bytesRow E (grownCap V2 24 0 5)) 5 ((bytesRow E (grownCap V2 24 0 5)).size, (bytesRow E (grownCap V2 24 0 5)).size + 1))).alloc (.cells #[.int .u8 (a.toNat : Int), .int .u8 (b.toNat : Int), .int .u8 (c.toNat : Int), .int .u8 (d.toNat : Int)] 5)).drew = V3 at *
          generalize grownCap V2 24 0 5 = cap
          generalize V2.heap.size = g at *
          rw [← HZ.out] at bT
          obtain ⟨Y, hY⟩ : ∃ Y, ys a b c d = Y := ⟨_, rfl⟩
          have hYl : Y.length = 4 := by rw [← hY]; rfl
          rw [hY] at bT bY
          replace hY := Lib.hid hY
          replace hYl := Lib.hid hYl
          clear HZ
          go_loopw [15] (fun i w => ∃ k : Nat, k ≤ 4 ∧ i = .int .i64 k ∧ BRow w g (turnL E Y p k) ∧ BRow w (g + 1) Y ∧ Box 36 w W.heap.size [.int .i64 r.kind, .int .u64 (r.seq : Int), .int .u64 (r.data : Int)] ∧ Below W.heap.size W w) (fun i _ => 4 - (intOf i).toNat)
          case atStart => exact ⟨0, by omega, rfl, bT, bY, xr, hB⟩
          case round =>
            clear xr hB bT bY
            obtain ⟨k, hk, rfl, bT, bY, xr, hB⟩ := hrel
            have hTl : (turnL E Y p k).length = 24 := by rw [turnL_length]; exact hzz.out
            have hYl2 := hYl.out
            by_cases hlt : k < 4
            · have c1 := bT.cell (j := p + k) (by omega)
              have f1 := bT.frozen (j := p + k) (by omega)
              have c2 := bY.cell (j := k) (by omega)
              have w1 : IntKind.i64.wrap ((p : Int) + (k : Int)) = (p : Int) + (k : Int) := by rw [IntKind.wrap_i64]; omega
              have n1 : ((p : Int) + (k : Int)).toNat = p + k := by omega
              have g3 : (0 : Int) ≤ (p : Int) + (k : Int) := by omega
              have g4 : (p : Int) + (k : Int) < 24 := by omega
              have g5 : (0 : Int) ≤ (k : Int) := by omega
              have g6 : (k : Int) < 4 := by omega
              have bT2 := bT.set (k := p + k) (by omega) (bxor (gd (turnL E Y p k) (p + k) 0) (gd Y k 0))
              rw [← turnL_succ E Y p k (by have := hzz.out; omega)] at bT2
              have bY2 := bY.other (b := g) (k := p + k) (by omega) (.int .u8 ((bxor (gd (turnL E Y p k) (p + k) 0) (gd Y k 0)).toNat : Int))
              have hB2 := hB.setCell (p := ⟨g, p + k, none⟩) hg0 (.int .u8 ((bxor (gd (turnL E Y p k) (p + k) 0) (gd Y k 0)).toNat : Int))
              have xr2 := xr.other (C := g) (by omega) (p + k) (.int .u8 ((bxor (gd (turnL E Y p k) (p + k) 0) (gd Y k 0)).toNat : Int))
              clear hTl hYl2 hB bT bY xr
              go_wp2
              go_region
              go_wp2
              go_roundw
              case rel => exact ⟨k + 1, by omega, by go_num, bT2.drew, bY2.drew, xr2.drew, hB2.drew⟩
              case measure => simp [intOf]; omega
            · obtain rfl : k = 4 := by omega
              obtain ⟨u, w, v, z, e1, e2, lw, lv, lu, hiff⟩ := turn_parts E Y p 4 (by have := hzz.out; omega)
              have hcv := bT.string (P := Try.prog) (src := 52) (dst := 9) Try.underlying52 Try.underlying5 Try.underlying9 cap
              rw [hTl] at hcv
              have hsz : (bs (turnL E Y p 4)).size ≤ 140737488351232 := by rw [bs_size, hTl]; decide
              obtain ⟨T, hT⟩ : ∃ T, bs (turnL E Y p 4) = T := ⟨_, rfl⟩
              have eT : bl T = turnL E Y p 4 := by rw [← hT, bl_bs]
              rw [hT] at hcv hsz
              have TD := fun (W : World) => own07Decode T W hsz
              rw [eT] at TD
              clear hTl hYl2 bT bY hT eT
              by_cases hd : decE (turnL E Y p 4) = 0
              · have hwv : w = v := dec_turned (by rw [← e1]; exact hHE.out) (by rw [← e2]; exact hd) lw lv (by omega)
                have hy := hiff.1 hwv
                have hbl : turnL E Y p 4 = bl E := by rw [e2, e1, hwv]
                rw [hbl, hHR.out, hHE.out] at TD
                rw [← hY.out] at hy
                have y0 : a = 0 := hy 0 (by decide)
                have y1 : b = 0 := hy 1 (by decide)
                have y2 : c = 0 := hy 2 (by decide)
                have y3 : d = 0 := hy 3 (by decide)
                replace TD := Lib.hid TD
                clear hd hiff hwv hbl e1 e2 lw lv lu hy hsz
                clear hY
                subst y0 y1 y2 y3
                have xr0 := xr.cell 0 rfl
                have xrz0 := xr.frozen 0
                have xr1 := xr.cell 1 rfl
                have xrz1 := xr.frozen 1
                have xr2 := xr.cell 2 rfl
                have xrz2 := xr.frozen 2
                go_wp2_with fail
                refine (TD.out _).mono ?_
                rintro e V4 ⟨rfl, hk⟩
                clear xr0 xrz0 xr1 xrz1 xr2 xrz2
                replace hB := below_seq hB hk
                replace xr := xr.seq hk
                clear hk
                have xd := Box.new 36 V4 [.int .i64 r.kind, .int .u64 (r.seq : Int), .int .u64 (r.data : Int)]
                have ne_xd_xr : V4.heap.size ≠ W.heap.size := Nat.ne_of_gt xr.lt
                have le_xd : W.heap.size ≤ V4.heap.size := hB.size
                replace xr := xr.alloc (.cells #[.int .i64 r.kind, .int .u64 (r.seq : Int), .int .u64 (r.data : Int)] 36)
                replace hB := hB.alloc hB.size (.cells #[.int .i64 r.kind, .int .u64 (r.seq : Int), .int .u64 (r.data : Int)] 36)
                have xr0 := xr.cell 0 rfl
                have xrz0 := xr.frozen 0
                have xr1 := xr.cell 1 rfl
                have xrz1 := xr.frozen 1
                have xr2 := xr.cell 2 rfl
                have xrz2 := xr.frozen 2
                have xd0 := xd.cell 0 rfl
                have xdz0 := xd.frozen 0
                have xd1 := xd.cell 1 rfl
                have xdz1 := xd.frozen 1
                have xd2 := xd.cell 2 rfl
                have xdz2 := xd.frozen 2
                go_wp2
                go_ret
                exact ⟨rfl, hB⟩
              · have n1 : (decE (turnL E Y p 4) != 0) = true := bne_iff_ne.2 hd
                replace TD := Lib.hid TD
                clear hd hiff e1 e2 lw lv lu hsz
                generalize decR (turnL E Y p 4) = x at *
                generalize decE (turnL E Y p 4) = F at *
                have xr0 := xr.cell 0 rfl
                have xrz0 := xr.frozen 0
                have xr1 := xr.cell 1 rfl
                have xrz1 := xr.frozen 1
                have xr2 := xr.cell 2 rfl
                have xrz2 := xr.frozen 2
                go_wp2_with fail
                refine (TD.out _).mono ?_
                rintro e V4 ⟨rfl, hk⟩
                clear xr0 xrz0 xr1 xrz1 xr2 xrz2
                replace hB := below_seq hB hk
                replace xr := xr.seq hk
                clear hk
                have xd := Box.new 36 V4 [.int .i64 x.kind, .int .u64 (x.seq : Int), .int .u64 (x.data : Int)]
                have ne_xd_xr : V4.heap.size ≠ W.heap.size := Nat.ne_of_gt xr.lt
                have le_xd : W.heap.size ≤ V4.heap.size := hB.size
                replace xr := xr.alloc (.cells #[.int .i64 x.kind, .int .u64 (x.seq : Int), .int .u64 (x.data : Int)] 36)
                replace hB := hB.alloc hB.size (.cells #[.int .i64 x.kind, .int .u64 (x.seq : Int), .int .u64 (x.data : Int)] 36)
                have xr0 := xr.cell 0 rfl
                have xrz0 := xr.frozen 0
                have xr1 := xr.cell 1 rfl
                have xrz1 := xr.frozen 1
                have xr2 := xr.cell 2 rfl
                have xrz2 := xr.frozen 2
                have xd0 := xd.cell 0 rfl
                have xdz0 := xd.frozen 0
                have xd1 := xd.cell 1 rfl
                have xdz1 := xd.frozen 1
                have xd2 := xd.cell 2 rfl
                have xdz2 := xd.frozen 2
                go_wp2
                go_ret
                exact ⟨rfl, hB⟩

theorem own : ownKnob Try.prog.godebug = none := by kernel_rfl

set_option maxRecDepth 100000 in
theorem lifted (os : Os) (started : os.Started) (H : Type) (enc : TypeId × Value → H) :
    ReturnsInHanded {} Try.checked os 14 .any (Rows.recordTurnedSpec.pre6 enc Try.prog Try.f14 Rows.recordTurnedRow.domain false) (Rows.recordTurnedSpec.post enc Try.prog Try.f14 false true false false) := by
  refine returnsInHanded_of_change (C := Try.checked) own started (by kernel_rfl) Try.func14
    (ChangeSpec.witness6 (enc := enc) (C := Try.checked) false ⟨#[], #[.agg #[.int .i64 0, .int .u64 0, .int .u64 0], .int .i64 0, .int .u8 0, .int .u8 0, .int .u8 0, .int .u8 0], []⟩ 8 (by kernel_rfl) (by kernel_rfl) (by kernel_rfl) (by kernel_rfl)) ?_
  intro W base args ds gs before hval hW _ _
  have hW' := hW
  obtain ⟨p, q, hA0, hV, rfl, hfz, hnd⟩ := hW
  have hA : DataW.TrodAll enc Try.prog W 0 (fun _ => true) true Try.f14.params.toList args.toList ds p := hA0
  rw [Try.params14] at hA hval
  obtain ⟨v0, vs0, d0, ds0, p0, q0, hargs, rfl, rfl, h0, r0⟩ := trodAll_cons hA
  obtain ⟨v1, vs1, d1, ds1, p1, q1, rfl, rfl, rfl, h1, r1⟩ := trodAll_cons r0
  obtain ⟨v2, vs2, d2, ds2, p2, q2, rfl, rfl, rfl, h2, r2⟩ := trodAll_cons r1
  obtain ⟨v3, vs3, d3, ds3, p3, q3, rfl, rfl, rfl, h3, r3⟩ := trodAll_cons r2
  obtain ⟨v4, vs4, d4, ds4, p4, q4, rfl, rfl, rfl, h4, r4⟩ := trodAll_cons r3
  obtain ⟨v5, vs5, d5, ds5, p5, q5, rfl, rfl, rfl, h5, r5⟩ := trodAll_cons r4
  obtain ⟨rfl, rfl, rfl⟩ := trodAll_nil r5
  obtain rfl : args = #[v0, v1, v2, v3, v4, v5] := by cases args; simp_all
  obtain ⟨rfl, rfl⟩ := trodVars_none hV
  have k0 := h0
  obtain ⟨s0, rfl, hs0⟩ := open_rec (hval 0 36 v0 rfl rfl) h0
  obtain ⟨a1, rfl, rfl, rfl, w1⟩ := open_int Try.underlying3 (hval 1 3 v1 rfl rfl) h1
  obtain ⟨a2, rfl, rfl, rfl, w2⟩ := open_int Try.underlying5 (hval 2 5 v2 rfl rfl) h2
  obtain ⟨c2, rfl⟩ := int_u8 w2
  obtain ⟨a3, rfl, rfl, rfl, w3⟩ := open_int Try.underlying5 (hval 3 5 v3 rfl rfl) h3
  obtain ⟨c3, rfl⟩ := int_u8 w3
  obtain ⟨a4, rfl, rfl, rfl, w4⟩ := open_int Try.underlying5 (hval 4 5 v4 rfl rfl) h4
  obtain ⟨c4, rfl⟩ := int_u8 w4
  obtain ⟨a5, rfl, rfl, rfl, w5⟩ := open_int Try.underlying5 (hval 5 5 v5 rfl rfl) h5
  obtain ⟨c5, rfl⟩ := int_u8 w5
  clear hA0
  simp only [List.append_nil] at hW'
  refine (walk s0 a1 c2 c3 c4 c5 W hs0 (int_i64 w1)).mono fun e W' ⟨he, hB⟩ => ?_
  subst he
  exact ⟨_, rfl, ⟨_, _, _, [], _, [], hW', trodAll_cons_mk (shut_bool Try.underlying4 _) trodAll_mk0, (trodAll_cons_mk (Below.trod Try.laidOut (by kernel_rfl) (of_decide_eq_true (by kernel_rfl)) k0 hB (fun x hx => by simpa using hW'.lt x (by simp [hx]))) (trodAll_cons_mk (shut_int Try.underlying3 w1) (trodAll_cons_mk (shut_int Try.underlying5 w2) (trodAll_cons_mk (shut_int Try.underlying5 w3) (trodAll_cons_mk (shut_int Try.underlying5 w4) (trodAll_cons_mk (shut_int Try.underlying5 w5) trodAll_mk0)))))), rfl, hB.frame _, fun h => by cases h⟩⟩

theorem holds : Rows.RecordTurnedSaid :=
  OpenClaim.holds_of_wide 14 Try.f14 rfl rfl rfl rfl rfl rfl rfl ⟨rfl, rfl, rfl, rfl, rfl⟩ rfl rfl rfl rfl rfl (by kernel_rfl) Try.func14 (by kernel_rfl)
    (of_decide_eq_true (by kernel_rfl)) (by unfold Func.isWrapper; first | (rw [if_pos (by decide +kernel)]; kernel_rfl) | (rw [if_neg (by decide +kernel)]; exact ⟨rfl, rfl⟩))
    (fun os started H enc _ => lifted os started H enc)
end Go.Proofs.Ytoemjfjmpmngeac.RecordTurned

/- The reference's functions of layer 9: contracts only. -/
import Derived.Test.YtiacdcnpkfpjaaaGreatScanPlain
import Derived.Test.YtiacdcnpkfpjaaaGreatBankRef
import Derived.Test.YtiacdcnpkfpjaaaGreatLayout
import Derived.Test.YtiacdcnpkfpjaaaGreatBox
import Derived.Deep.RegionHeld3
import Derived.WalkLawsBesides
import Derived.WalkSpells
import Derived.IntWalk
import Derived.Lib.Hide
namespace Go.Proofs.YtiacdcnpkfpjaaaGreat
open Go.RowKit
set_option linter.unusedVariables false
set_option linter.unusedSimpArgs false

set_option maxRecDepth 100000 in
set_option maxHeartbeats 4000000 in
theorem ref09Last (s : ByteArray) (W : World) (hs : s.size ≤ maxLen) :
    Calls Tryz.prog 21 #[.string s] W fun e W' => e = .returned (.tuple #[.agg #[.int .i64 (lastR s).kind, .int .u64 ((lastR s).seq : Int), .int .u64 ((lastR s).data : Int)], .int .i64 (lastE s)]) ∧ Below W.heap.size W W' := by
  have TL := Lib.hid (fun (V : World) => (show Calls Tryz.prog 39 #[.int .i64 (s.size : Int)] V fun e W' => e = .returned (.int .i64 (slotsN s : Int)) ∧ W' = V from by have h := ref05Slots (s.size : Int) V; rwa [← slotsN_eq] at h))
  have TS := Lib.hid (fun (j : Nat) (V : World) (h : j < 13) => ref08State s ((j + 1 : Nat) : Int) V hs ⟨by omega, by omega⟩)
  have hN := slotsN_le s
  have TR := Lib.hid (fun (j : Nat) (V : World) (h : j < 13) => (show Calls Tryz.prog 38 #[.string s, .int .i64 ((j + 1 : Nat) : Int)] V fun e W' => e = .returned (.tuple #[.agg #[.int .i64 (recF s ((j : Int) + 1)).kind, .int .u64 ((recF s ((j : Int) + 1)).seq : Int), .int .u64 ((recF s ((j : Int) + 1)).data : Int)], .int .i64 (decE (bl (slotT s ((j : Int) + 1))))]) ∧ Below V.heap.size V W' from by
    have h3 := ref08Record s ((j + 1 : Nat) : Int) V hs ⟨by omega, by omega⟩
    rwa [show ((j + 1 : Nat) : Int) = (j : Int) + 1 from by omega] at h3 ⊢))
  have HS := Lib.hid (fun (j : Nat) (h : ¬ stateF s ((j : Int) + 1) = 2) => (show lastG s (j + 1) = lastG s j from by rw [lastG, if_neg (fun x => h x.1)]))
  have HT := Lib.hid (fun (j : Nat) (h : stateF s ((j : Int) + 1) = 2) (k : ∀ b, lastG s j = some b → b.seq ≤ (recF s ((j : Int) + 1)).seq) => (show lastG s (j + 1) = some (recF s ((j : Int) + 1)) from by rw [lastG, if_pos ⟨h, k⟩]))
  have HU := Lib.hid (fun (j : Nat) (b : Rec) (k : lastG s j = some b) (h : ¬ b.seq ≤ (recF s ((j : Int) + 1)).seq) => (show lastG s (j + 1) = some b from by rw [lastG, if_neg (fun x => h (x.2 b k)), k]))
  have HE := Lib.hid (show lastE s = (if lastG s (slotsN s) = none then 10 else 0) from rfl)
  have HR := Lib.hid (show lastR s = (lastG s (slotsN s)).getD ⟨0, 0, 0⟩ from rfl)
  have HZ := Lib.hid (show lastG s 0 = none from rfl)
  generalize lastE s = E at *
  generalize lastR s = r at *
  generalize slotsN s = n at *
  have hB : Below W.heap.size W ((W.alloc (.cells #[.int .i64 0, .int .u64 0, .int .u64 0] 59)).alloc (.cells #[.int .i64 0, .int .u64 0, .int .u64 0] 59)) := (((Below.refl _ _).alloc (Nat.le_refl _) _).alloc (by simp) _)
  have xo := ((Box.new 59 W [.int .i64 0, .int .u64 0, .int .u64 0]).alloc (.cells #[.int .i64 0, .int .u64 0, .int .u64 0] 59))
  have xb : Box 59 ((W.alloc (.cells #[.int .i64 0, .int .u64 0, .int .u64 0] 59)).alloc (.cells #[.int .i64 0, .int .u64 0, .int .u64 0] 59)) (W.heap.size + 1) [.int .i64 0, .int .u64 0, .int .u64 0] := by have h := (Box.new 59 (W.alloc (.cells #[.int .i64 0, .int .u64 0, .int .u64 0] 59)) [.int .i64 0, .int .u64 0, .int .u64 0]); rwa [World.size_alloc] at h
  have le_xb : W.heap.size ≤ W.heap.size + 1 := by omega
  go_enter Tryz.func21, Tryz.ntmps21
  go_wp2
  go_loopw [5, 6] (fun x i w => ∃ (j : Nat) (g : Option Rec), j ≤ n ∧ i = .int .i64 ((j + 1 : Nat) : Int) ∧ lastG s j = g ∧ x = .int .i64 (if g = none then 10 else 0) ∧ Box 59 w (W.heap.size) [.int .i64 0, .int .u64 0, .int .u64 0] ∧ Box 59 w (W.heap.size + 1) [.int .i64 (g.getD ⟨0, 0, 0⟩).kind, .int .u64 ((g.getD ⟨0, 0, 0⟩).seq : Int), .int .u64 ((g.getD ⟨0, 0, 0⟩).data : Int)] ∧ Below W.heap.size W w) (fun _ i _ => n + 1 - (intOf i).toNat)
  case atStart => exact ⟨0, none, by omega, rfl, HZ.out, rfl, xo, xb, hB⟩
  case round =>
    clear xo xb hB
    obtain ⟨j, g, hj, rfl, hg, rfl, xo, xb, hB⟩ := hrel
    by_cases hlt : j < n
    · cases g with
      | none =>
        have i1 : ((j + 1 : Nat) : Int) ≤ (n : Int) := by omega
        replace xb : Box 59 wr (W.heap.size + 1) [.int .i64 0, .int .u64 0, .int .u64 0] := xb
        replace hg := Lib.hid hg
        obtain ⟨xo0, xoz0, xo1, xoz1, xo2, xoz2⟩ := xo.f3
        obtain ⟨xb0, xbz0, xb1, xbz1, xb2, xbz2⟩ := xb.f3
        go_wp2_with fail
        refine (TL.out _).mono ?_
        rintro e w' ⟨rfl, hw⟩
        rw [hw]
        clear hw w'
        go_wp2_with fail
        refine (TR.out j _ (by omega)).mono ?_
        rintro e V1 ⟨rfl, hk⟩
        clear xo0 xoz0 xo1 xoz1 xo2 xoz2 xb0 xbz0 xb1 xbz1 xb2 xbz2
        replace hB := below_seq hB hk
        replace xo := xo.seq hk
        replace xb := xb.seq hk
        clear hk
        have xx := Box.new 59 V1 [.int .i64 (recF s ((j : Int) + 1)).kind, .int .u64 ((recF s ((j : Int) + 1)).seq : Int), .int .u64 ((recF s ((j : Int) + 1)).data : Int)]
        have ne_xx_xo : V1.heap.size ≠ W.heap.size := Nat.ne_of_gt xo.lt
        have ne_xx_xb : V1.heap.size ≠ W.heap.size + 1 := Nat.ne_of_gt xb.lt
        have le_xx : W.heap.size ≤ V1.heap.size := hB.size
        replace xo := xo.alloc (.cells #[.int .i64 (recF s ((j : Int) + 1)).kind, .int .u64 ((recF s ((j : Int) + 1)).seq : Int), .int .u64 ((recF s ((j : Int) + 1)).data : Int)] 59)
        replace xb := xb.alloc (.cells #[.int .i64 (recF s ((j : Int) + 1)).kind, .int .u64 ((recF s ((j : Int) + 1)).seq : Int), .int .u64 ((recF s ((j : Int) + 1)).data : Int)] 59)
        replace hB := hB.alloc hB.size (.cells #[.int .i64 (recF s ((j : Int) + 1)).kind, .int .u64 ((recF s ((j : Int) + 1)).seq : Int), .int .u64 ((recF s ((j : Int) + 1)).data : Int)] 59)
        obtain ⟨xo0, xoz0, xo1, xoz1, xo2, xoz2⟩ := xo.f3
        obtain ⟨xb0, xbz0, xb1, xbz1, xb2, xbz2⟩ := xb.f3
        obtain ⟨xx0, xxz0, xx1, xxz1, xx2, xxz2⟩ := xx.f3
        go_wp2_with fail
        refine (TS.out j _ (by omega)).mono ?_
        rintro e V2 ⟨rfl, hk⟩
        clear xo0 xoz0 xo1 xoz1 xo2 xoz2 xb0 xbz0 xb1 xbz1 xb2 xbz2 xx0 xxz0 xx1 xxz1 xx2 xxz2
        replace hB := below_seq hB hk
        replace xo := xo.seq hk
        replace xb := xb.seq hk
        replace xx := xx.seq hk
        clear hk
        obtain ⟨xo0, xoz0, xo1, xoz1, xo2, xoz2⟩ := xo.f3
        obtain ⟨xb0, xbz0, xb1, xbz1, xb2, xbz2⟩ := xb.f3
        obtain ⟨xx0, xxz0, xx1, xxz1, xx2, xxz2⟩ := xx.f3
        by_cases hst : stateF s ((j : Int) + 1) = 2
        · have n1 : (stateF s ((j : Int) + 1) == 2) = true := beq_iff_eq.2 hst
          have hl := Lib.hid (HT.out j hst (fun c hc => by rw [hg.out] at hc; cases hc))
          clear hst
          generalize recF s ((j : Int) + 1) = y at *
          go_wp2
          clear xo0 xoz0 xo1 xoz1 xo2 xoz2 xb0 xbz0 xb1 xbz1 xb2 xbz2 xx0 xxz0 xx1 xxz1 xx2 xxz2
          replace xo : Box 59 (((V2.setCell ⟨W.heap.size + 1, 0, none⟩ (.int .i64 y.kind)).setCell ⟨W.heap.size + 1, 1, none⟩ (.int .u64 (y.seq : Int))).setCell ⟨W.heap.size + 1, 2, none⟩ (.int .u64 (y.data : Int))) (W.heap.size) [.int .i64 0, .int .u64 0, .int .u64 0] := (((xo.other (by omega) 0 (.int .i64 y.kind)).other (by omega) 1 (.int .u64 (y.seq : Int))).other (by omega) 2 (.int .u64 (y.data : Int)))
          replace xx := (((xx.other (Ne.symm ne_xx_xb) 0 (.int .i64 y.kind)).other (Ne.symm ne_xx_xb) 1 (.int .u64 (y.seq : Int))).other (Ne.symm ne_xx_xb) 2 (.int .u64 (y.data : Int)))
          replace xb : Box 59 (((V2.setCell ⟨W.heap.size + 1, 0, none⟩ (.int .i64 y.kind)).setCell ⟨W.heap.size + 1, 1, none⟩ (.int .u64 (y.seq : Int))).setCell ⟨W.heap.size + 1, 2, none⟩ (.int .u64 (y.data : Int))) (W.heap.size + 1) [.int .i64 y.kind, .int .u64 (y.seq : Int), .int .u64 (y.data : Int)] := (((xb.set 0 (.int .i64 y.kind)).set 1 (.int .u64 (y.seq : Int))).set 2 (.int .u64 (y.data : Int)))
          replace hB : Below W.heap.size W (((V2.setCell ⟨W.heap.size + 1, 0, none⟩ (.int .i64 y.kind)).setCell ⟨W.heap.size + 1, 1, none⟩ (.int .u64 (y.seq : Int))).setCell ⟨W.heap.size + 1, 2, none⟩ (.int .u64 (y.data : Int))) := (((hB.setCell le_xb _).setCell le_xb _).setCell le_xb _)
          generalize (((V2.setCell ⟨W.heap.size + 1, 0, none⟩ (.int .i64 y.kind)).setCell ⟨W.heap.size + 1, 1, none⟩ (.int .u64 (y.seq : Int))).setCell ⟨W.heap.size + 1, 2, none⟩ (.int .u64 (y.data : Int))) = V3 at *
          go_roundw
          case rel => exact ⟨j + 1, some y, by omega, by go_num, hl.out, rfl, xo, xb, hB⟩
          case measure => simp [intOf]; omega
        · have hl := Lib.hid ((HS.out j hst).trans hg.out)
          have n1 : (stateF s ((j : Int) + 1) == 2) = false := beq_eq_false_iff_ne.2 hst
          clear hst
          generalize recF s ((j : Int) + 1) = y at *
          go_wp2
          go_roundw
          clear xo0 xoz0 xo1 xoz1 xo2 xoz2 xb0 xbz0 xb1 xbz1 xb2 xbz2 xx0 xxz0 xx1 xxz1 xx2 xxz2
          case rel => exact ⟨j + 1, none, by omega, by go_num, hl.out, rfl, xo, xb, hB⟩
          case measure => simp [intOf]; omega
      | some b =>
        have i1 : ((j + 1 : Nat) : Int) ≤ (n : Int) := by omega
        replace xb : Box 59 wr (W.heap.size + 1) [.int .i64 b.kind, .int .u64 (b.seq : Int), .int .u64 (b.data : Int)] := xb
        replace hg := Lib.hid hg
        obtain ⟨xo0, xoz0, xo1, xoz1, xo2, xoz2⟩ := xo.f3
        obtain ⟨xb0, xbz0, xb1, xbz1, xb2, xbz2⟩ := xb.f3
        go_wp2_with fail
        refine (TL.out _).mono ?_
        rintro e w' ⟨rfl, hw⟩
        rw [hw]
        clear hw w'
        go_wp2_with fail
        refine (TR.out j _ (by omega)).mono ?_
        rintro e V1 ⟨rfl, hk⟩
        clear xo0 xoz0 xo1 xoz1 xo2 xoz2 xb0 xbz0 xb1 xbz1 xb2 xbz2
        replace hB := below_seq hB hk
        replace xo := xo.seq hk
        replace xb := xb.seq hk
        clear hk
        have xx := Box.new 59 V1 [.int .i64 (recF s ((j : Int) + 1)).kind, .int .u64 ((recF s ((j : Int) + 1)).seq : Int), .int .u64 ((recF s ((j : Int) + 1)).data : Int)]
        have ne_xx_xo : V1.heap.size ≠ W.heap.size := Nat.ne_of_gt xo.lt
        have ne_xx_xb : V1.heap.size ≠ W.heap.size + 1 := Nat.ne_of_gt xb.lt
        have le_xx : W.heap.size ≤ V1.heap.size := hB.size
        replace xo := xo.alloc (.cells #[.int .i64 (recF s ((j : Int) + 1)).kind, .int .u64 ((recF s ((j : Int) + 1)).seq : Int), .int .u64 ((recF s ((j : Int) + 1)).data : Int)] 59)
        replace xb := xb.alloc (.cells #[.int .i64 (recF s ((j : Int) + 1)).kind, .int .u64 ((recF s ((j : Int) + 1)).seq : Int), .int .u64 ((recF s ((j : Int) + 1)).data : Int)] 59)
        replace hB := hB.alloc hB.size (.cells #[.int .i64 (recF s ((j : Int) + 1)).kind, .int .u64 ((recF s ((j : Int) + 1)).seq : Int), .int .u64 ((recF s ((j : Int) + 1)).data : Int)] 59)
        obtain ⟨xo0, xoz0, xo1, xoz1, xo2, xoz2⟩ := xo.f3
        obtain ⟨xb0, xbz0, xb1, xbz1, xb2, xbz2⟩ := xb.f3
        obtain ⟨xx0, xxz0, xx1, xxz1, xx2, xxz2⟩ := xx.f3
        go_wp2_with fail
        refine (TS.out j _ (by omega)).mono ?_
        rintro e V2 ⟨rfl, hk⟩
        clear xo0 xoz0 xo1 xoz1 xo2 xoz2 xb0 xbz0 xb1 xbz1 xb2 xbz2 xx0 xxz0 xx1 xxz1 xx2 xxz2
        replace hB := below_seq hB hk
        replace xo := xo.seq hk
        replace xb := xb.seq hk
        replace xx := xx.seq hk
        clear hk
        obtain ⟨xo0, xoz0, xo1, xoz1, xo2, xoz2⟩ := xo.f3
        obtain ⟨xb0, xbz0, xb1, xbz1, xb2, xbz2⟩ := xb.f3
        obtain ⟨xx0, xxz0, xx1, xxz1, xx2, xxz2⟩ := xx.f3
        by_cases hst : stateF s ((j : Int) + 1) = 2
        · have n1 : (stateF s ((j : Int) + 1) == 2) = true := beq_iff_eq.2 hst
          by_cases hle : b.seq ≤ (recF s ((j : Int) + 1)).seq
          · have hl := Lib.hid (HT.out j hst (fun c hc => by rw [hg.out] at hc; cases hc; exact hle))
            have m1 : ((recF s ((j : Int) + 1)).seq : Int) ≥ (b.seq : Int) := by omega
            clear hst hle
            generalize recF s ((j : Int) + 1) = y at *
            go_wp2
            clear xo0 xoz0 xo1 xoz1 xo2 xoz2 xb0 xbz0 xb1 xbz1 xb2 xbz2 xx0 xxz0 xx1 xxz1 xx2 xxz2
            replace xo : Box 59 (((V2.setCell ⟨W.heap.size + 1, 0, none⟩ (.int .i64 y.kind)).setCell ⟨W.heap.size + 1, 1, none⟩ (.int .u64 (y.seq : Int))).setCell ⟨W.heap.size + 1, 2, none⟩ (.int .u64 (y.data : Int))) (W.heap.size) [.int .i64 0, .int .u64 0, .int .u64 0] := (((xo.other (by omega) 0 (.int .i64 y.kind)).other (by omega) 1 (.int .u64 (y.seq : Int))).other (by omega) 2 (.int .u64 (y.data : Int)))
            replace xx := (((xx.other (Ne.symm ne_xx_xb) 0 (.int .i64 y.kind)).other (Ne.symm ne_xx_xb) 1 (.int .u64 (y.seq : Int))).other (Ne.symm ne_xx_xb) 2 (.int .u64 (y.data : Int)))
            replace xb : Box 59 (((V2.setCell ⟨W.heap.size + 1, 0, none⟩ (.int .i64 y.kind)).setCell ⟨W.heap.size + 1, 1, none⟩ (.int .u64 (y.seq : Int))).setCell ⟨W.heap.size + 1, 2, none⟩ (.int .u64 (y.data : Int))) (W.heap.size + 1) [.int .i64 y.kind, .int .u64 (y.seq : Int), .int .u64 (y.data : Int)] := (((xb.set 0 (.int .i64 y.kind)).set 1 (.int .u64 (y.seq : Int))).set 2 (.int .u64 (y.data : Int)))
            replace hB : Below W.heap.size W (((V2.setCell ⟨W.heap.size + 1, 0, none⟩ (.int .i64 y.kind)).setCell ⟨W.heap.size + 1, 1, none⟩ (.int .u64 (y.seq : Int))).setCell ⟨W.heap.size + 1, 2, none⟩ (.int .u64 (y.data : Int))) := (((hB.setCell le_xb _).setCell le_xb _).setCell le_xb _)
            generalize (((V2.setCell ⟨W.heap.size + 1, 0, none⟩ (.int .i64 y.kind)).setCell ⟨W.heap.size + 1, 1, none⟩ (.int .u64 (y.seq : Int))).setCell ⟨W.heap.size + 1, 2, none⟩ (.int .u64 (y.data : Int))) = V3 at *
            go_roundw
            case rel => exact ⟨j + 1, some y, by omega, by go_num, hl.out, rfl, xo, xb, hB⟩
            case measure => simp [intOf]; omega
          · have hl := Lib.hid (HU.out j b hg.out hle)
            have m1 : ¬ ((recF s ((j : Int) + 1)).seq : Int) ≥ (b.seq : Int) := by omega
            clear hst hle
            generalize recF s ((j : Int) + 1) = y at *
            go_wp2
            go_roundw
            clear xo0 xoz0 xo1 xoz1 xo2 xoz2 xb0 xbz0 xb1 xbz1 xb2 xbz2 xx0 xxz0 xx1 xxz1 xx2 xxz2
            case rel => exact ⟨j + 1, some b, by omega, by go_num, hl.out, rfl, xo, xb, hB⟩
            case measure => simp [intOf]; omega
        · have hl := Lib.hid ((HS.out j hst).trans hg.out)
          have n1 : (stateF s ((j : Int) + 1) == 2) = false := beq_eq_false_iff_ne.2 hst
          clear hst
          generalize recF s ((j : Int) + 1) = y at *
          go_wp2
          go_roundw
          clear xo0 xoz0 xo1 xoz1 xo2 xoz2 xb0 xbz0 xb1 xbz1 xb2 xbz2 xx0 xxz0 xx1 xxz1 xx2 xxz2
          case rel => exact ⟨j + 1, some b, by omega, by go_num, hl.out, rfl, xo, xb, hB⟩
          case measure => simp [intOf]; omega
    · obtain rfl : j = n := by omega
      have i1 : ¬ ((j + 1 : Nat) : Int) ≤ (j : Int) := by omega
      have hE := HE.out
      have hR := HR.out
      rw [hg] at hE hR
      rw [← hE]
      rw [← hR] at xb
      clear hE hR hg HE HR
      obtain ⟨xo0, xoz0, xo1, xoz1, xo2, xoz2⟩ := xo.f3
      obtain ⟨xb0, xbz0, xb1, xbz1, xb2, xbz2⟩ := xb.f3
      go_wp2_with fail
      refine (TL.out _).mono ?_
      rintro e w' ⟨rfl, hw⟩
      rw [hw]
      clear hw w'
      go_wp2
      clear xo0 xoz0 xo1 xoz1 xo2 xoz2 xb0 xbz0 xb1 xbz1 xb2 xbz2
      replace xb : Box 59 (((wr.setCell ⟨W.heap.size, 0, none⟩ (.int .i64 r.kind)).setCell ⟨W.heap.size, 1, none⟩ (.int .u64 (r.seq : Int))).setCell ⟨W.heap.size, 2, none⟩ (.int .u64 (r.data : Int))) (W.heap.size + 1) [.int .i64 r.kind, .int .u64 (r.seq : Int), .int .u64 (r.data : Int)] := (((xb.other (by omega) 0 (.int .i64 r.kind)).other (by omega) 1 (.int .u64 (r.seq : Int))).other (by omega) 2 (.int .u64 (r.data : Int)))
      replace xo : Box 59 (((wr.setCell ⟨W.heap.size, 0, none⟩ (.int .i64 r.kind)).setCell ⟨W.heap.size, 1, none⟩ (.int .u64 (r.seq : Int))).setCell ⟨W.heap.size, 2, none⟩ (.int .u64 (r.data : Int))) (W.heap.size) [.int .i64 r.kind, .int .u64 (r.seq : Int), .int .u64 (r.data : Int)] := (((xo.set 0 (.int .i64 r.kind)).set 1 (.int .u64 (r.seq : Int))).set 2 (.int .u64 (r.data : Int)))
      replace hB : Below W.heap.size W (((wr.setCell ⟨W.heap.size, 0, none⟩ (.int .i64 r.kind)).setCell ⟨W.heap.size, 1, none⟩ (.int .u64 (r.seq : Int))).setCell ⟨W.heap.size, 2, none⟩ (.int .u64 (r.data : Int))) := (((hB.setCell (Nat.le_refl _) _).setCell (Nat.le_refl _) _).setCell (Nat.le_refl _) _)
      generalize (((wr.setCell ⟨W.heap.size, 0, none⟩ (.int .i64 r.kind)).setCell ⟨W.heap.size, 1, none⟩ (.int .u64 (r.seq : Int))).setCell ⟨W.heap.size, 2, none⟩ (.int .u64 (r.data : Int))) = V1 at *
      obtain ⟨xo0, xoz0, xo1, xoz1, xo2, xoz2⟩ := xo.f3
      obtain ⟨xb0, xbz0, xb1, xbz1, xb2, xbz2⟩ := xb.f3
      exact bodyPost_ret (v := .tuple #[.agg #[.int .i64 r.kind, .int .u64 (r.seq : Int), .int .u64 (r.data : Int)], .int .i64 E]) (by simp [results, Tryz.results21, go_sem, xo0, xo1, xo2]) rfl ⟨rfl, hB⟩

set_option maxRecDepth 100000 in
set_option maxHeartbeats 4000000 in
theorem ref09Sound (s : ByteArray) (W : World) (hs : s.size ≤ maxLen) :
    Calls Tryz.prog 36 #[.string s] W fun e W' => e = .returned (.bool (soundB s)) ∧ Below W.heap.size W W' := by
  have TG := Lib.hid (fun (V : World) => ref08Generation s V hs)
  have TLa := Lib.hid (fun (V : World) => ref09Last s V hs)
  have HB := Lib.hid (show soundB s = (genE s == 0 && lastE s == 0) from rfl)
  generalize soundB s = B at *
  generalize genE s = a at *
  generalize lastE s = b at *
  generalize lastR s = r at *
  by_cases ha : a = 0
  · subst ha
    have hb2 := HB.out
    rw [show ((0 : Int) == 0 && b == 0) = (b == 0) from rfl] at hb2
    rw [hb2]
    clear hb2 HB
    have hB : Below W.heap.size W W := Below.refl _ _
    go_enter Tryz.func36, Tryz.ntmps36
    go_wp2_with fail
    refine (TG.out _).mono ?_
    rintro e V1 ⟨rfl, hk⟩
    replace hB := below_seq hB hk
    clear hk
    go_wp2_with fail
    refine (TLa.out _).mono ?_
    rintro e V2 ⟨rfl, hk⟩
    replace hB := below_seq hB hk
    clear hk
    have xt := Box.new 59 V2 [.int .i64 r.kind, .int .u64 (r.seq : Int), .int .u64 (r.data : Int)]
    have le_xt : W.heap.size ≤ V2.heap.size := hB.size
    replace hB := hB.alloc hB.size (.cells #[.int .i64 r.kind, .int .u64 (r.seq : Int), .int .u64 (r.data : Int)] 59)
    obtain ⟨xt0, xtz0, xt1, xtz1, xt2, xtz2⟩ := xt.f3
    go_wp2
    go_ret
    exact ⟨rfl, hB⟩
  · have n1 : (a == 0) = false := beq_eq_false_iff_ne.2 ha
    have hb2 := HB.out
    rw [n1, Bool.false_and] at hb2
    rw [hb2]
    clear hb2 HB ha
    have hB : Below W.heap.size W W := Below.refl _ _
    go_enter Tryz.func36, Tryz.ntmps36
    go_wp2_with fail
    refine (TG.out _).mono ?_
    rintro e V1 ⟨rfl, hk⟩
    replace hB := below_seq hB hk
    clear hk
    go_wp2_with fail
    refine (TLa.out _).mono ?_
    rintro e V2 ⟨rfl, hk⟩
    replace hB := below_seq hB hk
    clear hk
    have xt := Box.new 59 V2 [.int .i64 r.kind, .int .u64 (r.seq : Int), .int .u64 (r.data : Int)]
    have le_xt : W.heap.size ≤ V2.heap.size := hB.size
    replace hB := hB.alloc hB.size (.cells #[.int .i64 r.kind, .int .u64 (r.seq : Int), .int .u64 (r.data : Int)] 59)
    obtain ⟨xt0, xtz0, xt1, xtz1, xt2, xtz2⟩ := xt.f3
    go_wp2
    go_ret
    exact ⟨rfl, hB⟩

end Go.Proofs.YtiacdcnpkfpjaaaGreat

/- The program's own functions of layer 9: contracts only. -/
import Derived.Test.YthmpjoiifglbjaaGreatRows
import Derived.Test.YthmpjoiifglbjaaGreatScanPlain
import Derived.Test.YthmpjoiifglbjaaGreatBox
import Derived.Test.YthmpjoiifglbjaaGreatIntsAt
import Derived.Test.YthmpjoiifglbjaaGreatBankOwn
import Derived.WalkKit
import Derived.ProofKit
import Derived.Lib.Hide
import Derived.OwnWalk
import Derived.Deep.RegionHeld3
import Derived.WalkLawsBesides
import Derived.WalkSpells
import Derived.IntWalk
import Derived.Deep.LoopGhost
namespace Go.Proofs.YthmpjoiifglbjaaGreat
open Go.RowKit
set_option linter.unusedVariables false
set_option linter.unusedSimpArgs false

theorem statesL_slots (s : ByteArray) : (statesL s).length = slotsN s := statesL_length s
theorem statesL_at (s : ByteArray) (k : Nat) (h : k < slotsN s) : (statesL s)[k]? = some (stateF s ((k : Int) + 1)) := statesL_get s k h

set_option maxRecDepth 100000 in
set_option maxHeartbeats 4000000 in
theorem own09Next (s : ByteArray) (W : World) (hs : s.size ≤ maxLen) :
    Calls Tryz.prog 61 #[.string s] W fun e W' => e = .returned (.int .i64 (nextF s : Int)) ∧ Below W.heap.size W W' := by
  have TS := Lib.hid (fun (V : World) => (show Calls Tryz.prog 88 #[.string s] V fun e W' => ∃ A c, e = .returned (.slice A (slotsN s) c) ∧ IntsAt W' A (statesL s) ∧ Below V.heap.size V W' from by have h := own08States s V hs; rwa [statesL_slots] at h))
  have HL := Lib.hid (fun (k : Nat) (h : k < slotsN s) => statesL_at s k h)
  have hN := slotsN_le s
  have HM := Lib.hid (fun (j k : Nat) (h1 : j ≤ k) (h2 : k < slotsN s) (h : ¬ stateF s ((k : Int) + 1) = 0) => nextG_moves (s := s) (n := slotsN s) h1 h2 h)
  have HT := Lib.hid (fun (j : Nat) (hj : j < slotsN s) (h : j + 1 ≤ nextG s (slotsN s)) (k : ∀ k : Nat, j ≤ k → k < slotsN s → stateF s ((k : Int) + 1) = 0) => (show nextF s = j + 1 from by have h1 := nextG_stays h k; unfold nextF; rw [h1, if_neg (by omega)]))
  have HZ := Lib.hid (fun (h : slotsN s + 1 ≤ nextG s (slotsN s)) => (show nextF s = 0 from by unfold nextF; rw [if_pos (by omega)]))
  have h1 := Lib.hid (nextG_le s (slotsN s)).1
  generalize nextF s = F at *
  generalize nextG s (slotsN s) = G at *
  generalize statesL s = L at *
  generalize slotsN s = n at *
  have hB : Below W.heap.size W W := Below.refl _ _
  go_enter Tryz.func61, Tryz.ntmps61
  go_wp2
  go_step3
  go_wp2_with fail
  refine (TS.out _).mono ?_
  rintro e V1 ⟨A, c, rfl, hA0, hk⟩
  replace hB := below_seq hB hk
  clear hk
  go_wp2
  go_step3
  go_wp2
  go_loopg [10] n (fun q i w => ∃ j : Nat, j + q = n ∧ i = .int .i64 j ∧ j + 1 ≤ G ∧ Below V1.heap.size V1 w)
  case atStart => exact ⟨0, by omega, rfl, h1.out, Below.refl _ _⟩
  case round =>
    obtain ⟨j, hj, rfl, hG, hV⟩ := hrel
    replace hG := Lib.hid hG
    replace hj := Lib.hid hj
    by_cases hlt : j < n
    · have i1 : (j : Int) < (n : Int) := by omega
      have w1 : IntKind.i64.wrap ((n : Int) - (j : Int)) = (n : Int) - (j : Int) := IntWalk.i64_in _ (by omega)
      obtain ⟨wo, rfl⟩ : ∃ wo : World, wo = wr := ⟨_, rfl⟩
      obtain ⟨go, rfl⟩ : ∃ go : Nat, go = gk := ⟨_, rfl⟩
      go_wp2
      go_loopg [17] (n - j) (fun q b w => ∃ k : Nat, j + k + q = n ∧ b = .int .i64 k ∧ (∀ i : Nat, j ≤ i → i < j + k → stateF s ((i : Int) + 1) = 0) ∧ Below V1.heap.size V1 w)
      case atStart => exact ⟨0, by omega, rfl, fun i a b => by omega, hV⟩
      case round =>
        clear hV
        obtain ⟨k, hk, rfl, hz, hV⟩ := hrel
        replace hz := Lib.hid hz
        by_cases hkt : j + k < n
        · obtain ⟨m, hm⟩ : ∃ m : Nat, j + k = m := ⟨_, rfl⟩
          obtain ⟨g, off, rfl, y0⟩ := (hA0.seq hV).at (HL.out m (by omega))
          have i2 : (k : Int) < (n : Int) - (j : Int) := by omega
          have w2 : IntKind.i64.wrap ((j : Int) + (k : Int)) = (m : Int) := by rw [IntWalk.i64_in _ (by omega)]; omega
          have i3 : (0 : Int) ≤ (m : Int) := by omega
          have i4 : (m : Int) < (n : Int) := by omega
          replace hm := Lib.hid hm
          by_cases hst : stateF s ((m : Int) + 1) = 0
          · have n1 : (stateF s ((m : Int) + 1) != 0) = false := by rw [hst]; rfl
            have h := Lib.hid (fun (i : Nat) (a : j ≤ i) (b : i < j + (k + 1)) => (show stateF s ((i : Int) + 1) = 0 from (Nat.lt_or_ge i (j + k)).elim (fun hl => hz.out i a hl) (fun hl => by have e : i = m := by have := hm.out; omega
                                                                                                                                                                                                rw [e]; exact hst)))
            clear hst hz
            go_wp2
            go_roundg (n - j - (k + 1))
            case measure => omega
            case rel => exact ⟨k + 1, by omega, by go_num, h.out, hV⟩
          · have n1 : (stateF s ((m : Int) + 1) != 0) = true := bne_iff_ne.2 hst
            have h := Lib.hid (HM.out j m (by have := hm.out; omega) (by have := hm.out; omega) hst)
            clear hst hz
            go_wp2
            go_roundg (n - (j + 1))
            case measure => have := hj.out; omega
            case rel => exact ⟨j + 1, by omega, by go_num, h.out, hV⟩
        · obtain rfl : n = j + k := by omega
          have i2 : ¬ (k : Int) < ((j + k : Nat) : Int) - (j : Int) := by omega
          have w2 : IntKind.i64.wrap (1 + (j : Int)) = ((j + 1 : Nat) : Int) := by rw [IntWalk.i64_in _ (by omega)]; omega
          have hF := Lib.hid (HT.out j hlt hG.out (fun i a b => hz.out i a b))
          replace hB := below_seq hB hV
          clear hz
          go_wp2
          try rw [Exit.noGoto_ret]
          go_ret
          exact ⟨ret_int (by rw [hF.out]; first | rfl | omega), hB⟩
    · obtain rfl : j = n := by have := hj.out; omega
      have i1 : ¬ (j : Int) < (j : Int) := by omega
      have hF := Lib.hid (HZ.out hG.out)
      replace hB := below_seq hB hV
      go_wp2
      try rw [Exit.noGoto_ret]
      go_ret
      exact ⟨ret_int (by rw [hF.out]; rfl), hB⟩

set_option maxRecDepth 100000 in
set_option maxHeartbeats 4000000 in
theorem own09Last (s : ByteArray) (W : World) (hs : s.size ≤ maxLen) :
    Calls Tryz.prog 57 #[.string s] W fun e W' => e = .returned (.tuple #[.agg #[.int .i64 (lastR s).kind, .int .u64 ((lastR s).seq : Int), .int .u64 ((lastR s).data : Int)], .int .i64 (lastE s)]) ∧ Below W.heap.size W W' := by
  have TS := Lib.hid (fun (V : World) => (show Calls Tryz.prog 88 #[.string s] V fun e W' => ∃ A c, e = .returned (.slice A (slotsN s) c) ∧ IntsAt W' A (statesL s) ∧ Below V.heap.size V W' from by have h := own08States s V hs; rwa [statesL_slots] at h))
  have HL := Lib.hid (fun (k : Nat) (h : k < slotsN s) => statesL_at s k h)
  have hN := slotsN_le s
  have TR := Lib.hid (fun (j : Nat) (V : World) (h : j < 13) => (show Calls Tryz.prog 87 #[.string s, .int .i64 ((j + 1 : Nat) : Int)] V fun e W' => e = .returned (.tuple #[.agg #[.int .i64 (recF s ((j : Int) + 1)).kind, .int .u64 ((recF s ((j : Int) + 1)).seq : Int), .int .u64 ((recF s ((j : Int) + 1)).data : Int)], .int .i64 (decE (bl (slotT s ((j : Int) + 1))))]) ∧ Below V.heap.size V W' from by
    have h3 := own08Record s ((j + 1 : Nat) : Int) V hs ⟨by omega, by omega⟩
    rwa [show ((j + 1 : Nat) : Int) = (j : Int) + 1 from by omega] at h3 ⊢))
  have HS := Lib.hid (fun (j : Nat) (h : ¬ stateF s ((j : Int) + 1) = 2) => (show lastG s (j + 1) = lastG s j from by rw [lastG, if_neg (fun x => h x.1)]))
  have HT := Lib.hid (fun (j : Nat) (h : stateF s ((j : Int) + 1) = 2) (k : ∀ b, lastG s j = some b → b.seq ≤ (recF s ((j : Int) + 1)).seq) => (show lastG s (j + 1) = some (recF s ((j : Int) + 1)) from by rw [lastG, if_pos ⟨h, k⟩]))
  have HU := Lib.hid (fun (j : Nat) (b : Rec) (k : lastG s j = some b) (h : ¬ b.seq ≤ (recF s ((j : Int) + 1)).seq) => (show lastG s (j + 1) = some b from by rw [lastG, if_neg (fun x => h (x.2 b k)), k]))
  have HE := Lib.hid (show lastE s = (if lastG s (slotsN s) = none then 10 else 0) from rfl)
  have HR := Lib.hid (show lastR s = (lastG s (slotsN s)).getD ⟨0, 0, 0⟩ from rfl)
  have HZ := Lib.hid (show lastG s 0 = none from rfl)
  generalize lastE s = E at *
  generalize lastR s = r at *
  generalize statesL s = L at *
  generalize slotsN s = n at *
  have hB : Below W.heap.size W (W.alloc (.cells #[.int .i64 0, .int .u64 0, .int .u64 0] 112)) := ((Below.refl _ _).alloc (Nat.le_refl _) _)
  have xo := (Box.new 112 W [.int .i64 0, .int .u64 0, .int .u64 0])
  go_enter Tryz.func57, Tryz.ntmps57
  go_wp2_with fail
  refine (TS.out _).mono ?_
  rintro e V1 ⟨A, c, rfl, hA0, hk⟩
  replace hB := below_seq hB hk
  replace xo := xo.seq hk
  clear hk
  have xo0 := xo.cell 0 rfl
  have xoz0 := xo.frozen 0
  have xo1 := xo.cell 1 rfl
  have xoz1 := xo.frozen 1
  have xo2 := xo.cell 2 rfl
  have xoz2 := xo.frozen 2
  clear xo0 xoz0 xo1 xoz1 xo2 xoz2
  have hB0 := hB
  have xo00 := xo
  have xb := Box.new 112 V1 [.int .i64 0, .int .u64 0, .int .u64 0]
  have ne_xb_xo : V1.heap.size ≠ W.heap.size := Nat.ne_of_gt xo.lt
  have le_xb : W.heap.size ≤ V1.heap.size := hB.size
  replace xo := xo.alloc (.cells #[.int .i64 0, .int .u64 0, .int .u64 0] 112)
  replace hB := hB.alloc hB.size (.cells #[.int .i64 0, .int .u64 0, .int .u64 0] 112)
  have xo0 := xo.cell 0 rfl
  have xoz0 := xo.frozen 0
  have xo1 := xo.cell 1 rfl
  have xoz1 := xo.frozen 1
  have xo2 := xo.cell 2 rfl
  have xoz2 := xo.frozen 2
  have xb0 := xb.cell 0 rfl
  have xbz0 := xb.frozen 0
  have xb1 := xb.cell 1 rfl
  have xbz1 := xb.frozen 1
  have xb2 := xb.cell 2 rfl
  have xbz2 := xb.frozen 2
  clear xo0 xoz0 xo1 xoz1 xo2 xoz2 xb0 xbz0 xb1 xbz1 xb2 xbz2
  go_wp2
  go_loopw [6, 15] (fun x i w => ∃ (j : Nat) (g : Option Rec), j ≤ n ∧ i = .int .i64 j ∧ lastG s j = g ∧ x = .int .i64 (if g = none then 10 else 0) ∧ Box 112 w (V1.heap.size) [.int .i64 (g.getD ⟨0, 0, 0⟩).kind, .int .u64 ((g.getD ⟨0, 0, 0⟩).seq : Int), .int .u64 ((g.getD ⟨0, 0, 0⟩).data : Int)] ∧ Below V1.heap.size V1 w) (fun _ i _ => n - (intOf i).toNat)
  case atStart => exact ⟨0, none, by omega, rfl, HZ.out, rfl, xb, (Below.refl _ _).alloc (Nat.le_refl _) _⟩
  case round =>
    clear xb
    obtain ⟨j, g, hj, rfl, hg, rfl, xb, hV⟩ := hrel
    by_cases hlt : j < n
    · clear xo hB
      cases g with
      | none =>
        have hB := hV
        clear hV
        obtain ⟨gg, off, rfl, y0⟩ := (hA0.seq hB).at (HL.out j hlt)
        have i0 : (0 : Int) ≤ (j : Int) := by omega
        have i1 : (j : Int) < (n : Int) := by omega
        have w1 : IntKind.i64.wrap (1 + (j : Int)) = ((j + 1 : Nat) : Int) := by rw [IntWalk.i64_in _ (by omega)]; omega
        replace xb : Box 112 wr V1.heap.size [.int .i64 0, .int .u64 0, .int .u64 0] := xb
        replace hg := Lib.hid hg
        by_cases hst : stateF s ((j : Int) + 1) = 2
        · have n1 : (stateF s ((j : Int) + 1) != 2) = false := by rw [hst]; rfl
          have xb0 := xb.cell 0 rfl
          have xbz0 := xb.frozen 0
          have xb1 := xb.cell 1 rfl
          have xbz1 := xb.frozen 1
          have xb2 := xb.cell 2 rfl
          have xbz2 := xb.frozen 2
          have hl := Lib.hid (HT.out j hst (fun c hc => by rw [hg.out] at hc; cases hc))
          have m1 : ((recF s ((j : Int) + 1)).seq : Int) ≥ 0 := by omega
          clear hst
          have TR1 := Lib.hid (fun (V : World) => TR.out j V (by omega))
          generalize recF s ((j : Int) + 1) = y at *
          go_wp2_with fail
          refine (TR1.out _).mono ?_
          rintro e V12 ⟨rfl, hk⟩
          clear xb0 xbz0 xb1 xbz1 xb2 xbz2
          replace hB := below_seq hB hk
          replace xb := xb.seq hk
          clear hk
          have xx := Box.new 112 V12 [.int .i64 y.kind, .int .u64 (y.seq : Int), .int .u64 (y.data : Int)]
          have ne_xx_xb : V12.heap.size ≠ V1.heap.size := Nat.ne_of_gt xb.lt
          have le_xx : V1.heap.size ≤ V12.heap.size := hB.size
          replace xb := xb.alloc (.cells #[.int .i64 y.kind, .int .u64 (y.seq : Int), .int .u64 (y.data : Int)] 112)
          replace hB := hB.alloc hB.size (.cells #[.int .i64 y.kind, .int .u64 (y.seq : Int), .int .u64 (y.data : Int)] 112)
          have xb0 := xb.cell 0 rfl
          have xbz0 := xb.frozen 0
          have xb1 := xb.cell 1 rfl
          have xbz1 := xb.frozen 1
          have xb2 := xb.cell 2 rfl
          have xbz2 := xb.frozen 2
          have xx0 := xx.cell 0 rfl
          have xxz0 := xx.frozen 0
          have xx1 := xx.cell 1 rfl
          have xxz1 := xx.frozen 1
          have xx2 := xx.cell 2 rfl
          have xxz2 := xx.frozen 2
          go_wp2
          clear xb0 xbz0 xb1 xbz1 xb2 xbz2 xx0 xxz0 xx1 xxz1 xx2 xxz2
          replace xx : Box 112 ((((V12.alloc (.cells #[.int .i64 y.kind, .int .u64 (y.seq : Int), .int .u64 (y.data : Int)] 112)).setCell ⟨V1.heap.size, 0, none⟩ (.int .i64 y.kind)).setCell ⟨V1.heap.size, 1, none⟩ (.int .u64 (y.seq : Int))).setCell ⟨V1.heap.size, 2, none⟩ (.int .u64 (y.data : Int))) (V12.heap.size) [.int .i64 y.kind, .int .u64 (y.seq : Int), .int .u64 (y.data : Int)] := (((xx.other (Ne.symm ne_xx_xb) 0 (.int .i64 y.kind)).other (Ne.symm ne_xx_xb) 1 (.int .u64 (y.seq : Int))).other (Ne.symm ne_xx_xb) 2 (.int .u64 (y.data : Int)))
          replace xb : Box 112 ((((V12.alloc (.cells #[.int .i64 y.kind, .int .u64 (y.seq : Int), .int .u64 (y.data : Int)] 112)).setCell ⟨V1.heap.size, 0, none⟩ (.int .i64 y.kind)).setCell ⟨V1.heap.size, 1, none⟩ (.int .u64 (y.seq : Int))).setCell ⟨V1.heap.size, 2, none⟩ (.int .u64 (y.data : Int))) (V1.heap.size) [.int .i64 y.kind, .int .u64 (y.seq : Int), .int .u64 (y.data : Int)] := (((xb.set 0 (.int .i64 y.kind)).set 1 (.int .u64 (y.seq : Int))).set 2 (.int .u64 (y.data : Int)))
          replace hB : Below V1.heap.size V1 ((((V12.alloc (.cells #[.int .i64 y.kind, .int .u64 (y.seq : Int), .int .u64 (y.data : Int)] 112)).setCell ⟨V1.heap.size, 0, none⟩ (.int .i64 y.kind)).setCell ⟨V1.heap.size, 1, none⟩ (.int .u64 (y.seq : Int))).setCell ⟨V1.heap.size, 2, none⟩ (.int .u64 (y.data : Int))) := (((hB.setCell (Nat.le_refl _) _).setCell (Nat.le_refl _) _).setCell (Nat.le_refl _) _)
          generalize ((((V12.alloc (.cells #[.int .i64 y.kind, .int .u64 (y.seq : Int), .int .u64 (y.data : Int)] 112)).setCell ⟨V1.heap.size, 0, none⟩ (.int .i64 y.kind)).setCell ⟨V1.heap.size, 1, none⟩ (.int .u64 (y.seq : Int))).setCell ⟨V1.heap.size, 2, none⟩ (.int .u64 (y.data : Int))) = V13 at *
          go_roundw
          case rel => exact ⟨j + 1, some y, by omega, by go_num, hl.out, rfl, xb, hB⟩
          case measure => simp [intOf]; omega
        · have hl := Lib.hid ((HS.out j hst).trans hg.out)
          have n1 : (stateF s ((j : Int) + 1) != 2) = true := bne_iff_ne.2 hst
          clear hst
          go_wp2
          go_roundw
          case rel => exact ⟨j + 1, none, by omega, by go_num, hl.out, rfl, xb, hB⟩
          case measure => simp [intOf]; omega
      | some b =>
        have hB := hV
        clear hV
        obtain ⟨gg, off, rfl, y0⟩ := (hA0.seq hB).at (HL.out j hlt)
        have i0 : (0 : Int) ≤ (j : Int) := by omega
        have i1 : (j : Int) < (n : Int) := by omega
        have w1 : IntKind.i64.wrap (1 + (j : Int)) = ((j + 1 : Nat) : Int) := by rw [IntWalk.i64_in _ (by omega)]; omega
        replace xb : Box 112 wr V1.heap.size [.int .i64 b.kind, .int .u64 (b.seq : Int), .int .u64 (b.data : Int)] := xb
        replace hg := Lib.hid hg
        by_cases hst : stateF s ((j : Int) + 1) = 2
        · have n1 : (stateF s ((j : Int) + 1) != 2) = false := by rw [hst]; rfl
          have xb0 := xb.cell 0 rfl
          have xbz0 := xb.frozen 0
          have xb1 := xb.cell 1 rfl
          have xbz1 := xb.frozen 1
          have xb2 := xb.cell 2 rfl
          have xbz2 := xb.frozen 2
          by_cases hle : b.seq ≤ (recF s ((j : Int) + 1)).seq
          · have hl := Lib.hid (HT.out j hst (fun c hc => by rw [hg.out] at hc; cases hc; exact hle))
            have m1 : ((recF s ((j : Int) + 1)).seq : Int) ≥ (b.seq : Int) := by omega
            clear hst hle
            have TR1 := Lib.hid (fun (V : World) => TR.out j V (by omega))
            generalize recF s ((j : Int) + 1) = y at *
            go_wp2_with fail
            refine (TR1.out _).mono ?_
            rintro e V12 ⟨rfl, hk⟩
            clear xb0 xbz0 xb1 xbz1 xb2 xbz2
            replace hB := below_seq hB hk
            replace xb := xb.seq hk
            clear hk
            have xx := Box.new 112 V12 [.int .i64 y.kind, .int .u64 (y.seq : Int), .int .u64 (y.data : Int)]
            have ne_xx_xb : V12.heap.size ≠ V1.heap.size := Nat.ne_of_gt xb.lt
            have le_xx : V1.heap.size ≤ V12.heap.size := hB.size
            replace xb := xb.alloc (.cells #[.int .i64 y.kind, .int .u64 (y.seq : Int), .int .u64 (y.data : Int)] 112)
            replace hB := hB.alloc hB.size (.cells #[.int .i64 y.kind, .int .u64 (y.seq : Int), .int .u64 (y.data : Int)] 112)
            have xb0 := xb.cell 0 rfl
            have xbz0 := xb.frozen 0
            have xb1 := xb.cell 1 rfl
            have xbz1 := xb.frozen 1
            have xb2 := xb.cell 2 rfl
            have xbz2 := xb.frozen 2
            have xx0 := xx.cell 0 rfl
            have xxz0 := xx.frozen 0
            have xx1 := xx.cell 1 rfl
            have xxz1 := xx.frozen 1
            have xx2 := xx.cell 2 rfl
            have xxz2 := xx.frozen 2
            go_wp2
            clear xb0 xbz0 xb1 xbz1 xb2 xbz2 xx0 xxz0 xx1 xxz1 xx2 xxz2
            replace xx : Box 112 ((((V12.alloc (.cells #[.int .i64 y.kind, .int .u64 (y.seq : Int), .int .u64 (y.data : Int)] 112)).setCell ⟨V1.heap.size, 0, none⟩ (.int .i64 y.kind)).setCell ⟨V1.heap.size, 1, none⟩ (.int .u64 (y.seq : Int))).setCell ⟨V1.heap.size, 2, none⟩ (.int .u64 (y.data : Int))) (V12.heap.size) [.int .i64 y.kind, .int .u64 (y.seq : Int), .int .u64 (y.data : Int)] := (((xx.other (Ne.symm ne_xx_xb) 0 (.int .i64 y.kind)).other (Ne.symm ne_xx_xb) 1 (.int .u64 (y.seq : Int))).other (Ne.symm ne_xx_xb) 2 (.int .u64 (y.data : Int)))
            replace xb : Box 112 ((((V12.alloc (.cells #[.int .i64 y.kind, .int .u64 (y.seq : Int), .int .u64 (y.data : Int)] 112)).setCell ⟨V1.heap.size, 0, none⟩ (.int .i64 y.kind)).setCell ⟨V1.heap.size, 1, none⟩ (.int .u64 (y.seq : Int))).setCell ⟨V1.heap.size, 2, none⟩ (.int .u64 (y.data : Int))) (V1.heap.size) [.int .i64 y.kind, .int .u64 (y.seq : Int), .int .u64 (y.data : Int)] := (((xb.set 0 (.int .i64 y.kind)).set 1 (.int .u64 (y.seq : Int))).set 2 (.int .u64 (y.data : Int)))
            replace hB : Below V1.heap.size V1 ((((V12.alloc (.cells #[.int .i64 y.kind, .int .u64 (y.seq : Int), .int .u64 (y.data : Int)] 112)).setCell ⟨V1.heap.size, 0, none⟩ (.int .i64 y.kind)).setCell ⟨V1.heap.size, 1, none⟩ (.int .u64 (y.seq : Int))).setCell ⟨V1.heap.size, 2, none⟩ (.int .u64 (y.data : Int))) := (((hB.setCell (Nat.le_refl _) _).setCell (Nat.le_refl _) _).setCell (Nat.le_refl _) _)
            generalize ((((V12.alloc (.cells #[.int .i64 y.kind, .int .u64 (y.seq : Int), .int .u64 (y.data : Int)] 112)).setCell ⟨V1.heap.size, 0, none⟩ (.int .i64 y.kind)).setCell ⟨V1.heap.size, 1, none⟩ (.int .u64 (y.seq : Int))).setCell ⟨V1.heap.size, 2, none⟩ (.int .u64 (y.data : Int))) = V13 at *
            go_roundw
            case rel => exact ⟨j + 1, some y, by omega, by go_num, hl.out, rfl, xb, hB⟩
            case measure => simp [intOf]; omega
          · have hl := Lib.hid (HU.out j b hg.out hle)
            have m1 : ¬ ((recF s ((j : Int) + 1)).seq : Int) ≥ (b.seq : Int) := by omega
            clear hst hle
            have TR1 := Lib.hid (fun (V : World) => TR.out j V (by omega))
            generalize recF s ((j : Int) + 1) = y at *
            go_wp2_with fail
            refine (TR1.out _).mono ?_
            rintro e V12 ⟨rfl, hk⟩
            clear xb0 xbz0 xb1 xbz1 xb2 xbz2
            replace hB := below_seq hB hk
            replace xb := xb.seq hk
            clear hk
            have xx := Box.new 112 V12 [.int .i64 y.kind, .int .u64 (y.seq : Int), .int .u64 (y.data : Int)]
            have ne_xx_xb : V12.heap.size ≠ V1.heap.size := Nat.ne_of_gt xb.lt
            have le_xx : V1.heap.size ≤ V12.heap.size := hB.size
            replace xb := xb.alloc (.cells #[.int .i64 y.kind, .int .u64 (y.seq : Int), .int .u64 (y.data : Int)] 112)
            replace hB := hB.alloc hB.size (.cells #[.int .i64 y.kind, .int .u64 (y.seq : Int), .int .u64 (y.data : Int)] 112)
            have xb0 := xb.cell 0 rfl
            have xbz0 := xb.frozen 0
            have xb1 := xb.cell 1 rfl
            have xbz1 := xb.frozen 1
            have xb2 := xb.cell 2 rfl
            have xbz2 := xb.frozen 2
            have xx0 := xx.cell 0 rfl
            have xxz0 := xx.frozen 0
            have xx1 := xx.cell 1 rfl
            have xxz1 := xx.frozen 1
            have xx2 := xx.cell 2 rfl
            have xxz2 := xx.frozen 2
            go_wp2
            go_roundw
            clear xb0 xbz0 xb1 xbz1 xb2 xbz2 xx0 xxz0 xx1 xxz1 xx2 xxz2
            case rel => exact ⟨j + 1, some b, by omega, by go_num, hl.out, rfl, xb, hB⟩
            case measure => simp [intOf]; omega
        · have hl := Lib.hid ((HS.out j hst).trans hg.out)
          have n1 : (stateF s ((j : Int) + 1) != 2) = true := bne_iff_ne.2 hst
          clear hst
          go_wp2
          go_roundw
          case rel => exact ⟨j + 1, some b, by omega, by go_num, hl.out, rfl, xb, hB⟩
          case measure => simp [intOf]; omega
    · obtain rfl : j = n := by omega
      have i1 : ¬ (j : Int) < (j : Int) := by omega
      have hE := HE.out
      have hR := HR.out
      rw [hg] at hE hR
      rw [← hE]
      rw [← hR] at xb
      clear hE hR hg HE HR
      skip
      replace hB := below_seq hB0 hV
      replace xo := xo00.seq hV
      have xo0 := xo.cell 0 rfl
      have xoz0 := xo.frozen 0
      have xo1 := xo.cell 1 rfl
      have xoz1 := xo.frozen 1
      have xo2 := xo.cell 2 rfl
      have xoz2 := xo.frozen 2
      have xb0 := xb.cell 0 rfl
      have xbz0 := xb.frozen 0
      have xb1 := xb.cell 1 rfl
      have xbz1 := xb.frozen 1
      have xb2 := xb.cell 2 rfl
      have xbz2 := xb.frozen 2
      go_wp2
      clear xo0 xoz0 xo1 xoz1 xo2 xoz2 xb0 xbz0 xb1 xbz1 xb2 xbz2
      replace xb : Box 112 (((wr.setCell ⟨W.heap.size, 0, none⟩ (.int .i64 r.kind)).setCell ⟨W.heap.size, 1, none⟩ (.int .u64 (r.seq : Int))).setCell ⟨W.heap.size, 2, none⟩ (.int .u64 (r.data : Int))) (V1.heap.size) [.int .i64 r.kind, .int .u64 (r.seq : Int), .int .u64 (r.data : Int)] := (((xb.other (Ne.symm ne_xb_xo) 0 (.int .i64 r.kind)).other (Ne.symm ne_xb_xo) 1 (.int .u64 (r.seq : Int))).other (Ne.symm ne_xb_xo) 2 (.int .u64 (r.data : Int)))
      replace xo : Box 112 (((wr.setCell ⟨W.heap.size, 0, none⟩ (.int .i64 r.kind)).setCell ⟨W.heap.size, 1, none⟩ (.int .u64 (r.seq : Int))).setCell ⟨W.heap.size, 2, none⟩ (.int .u64 (r.data : Int))) (W.heap.size) [.int .i64 r.kind, .int .u64 (r.seq : Int), .int .u64 (r.data : Int)] := (((xo.set 0 (.int .i64 r.kind)).set 1 (.int .u64 (r.seq : Int))).set 2 (.int .u64 (r.data : Int)))
      replace hB : Below W.heap.size W (((wr.setCell ⟨W.heap.size, 0, none⟩ (.int .i64 r.kind)).setCell ⟨W.heap.size, 1, none⟩ (.int .u64 (r.seq : Int))).setCell ⟨W.heap.size, 2, none⟩ (.int .u64 (r.data : Int))) := (((hB.setCell (Nat.le_refl _) _).setCell (Nat.le_refl _) _).setCell (Nat.le_refl _) _)
      generalize (((wr.setCell ⟨W.heap.size, 0, none⟩ (.int .i64 r.kind)).setCell ⟨W.heap.size, 1, none⟩ (.int .u64 (r.seq : Int))).setCell ⟨W.heap.size, 2, none⟩ (.int .u64 (r.data : Int))) = V2 at *
      have xo0 := xo.cell 0 rfl
      have xoz0 := xo.frozen 0
      have xo1 := xo.cell 1 rfl
      have xoz1 := xo.frozen 1
      have xo2 := xo.cell 2 rfl
      have xoz2 := xo.frozen 2
      have xb0 := xb.cell 0 rfl
      have xbz0 := xb.frozen 0
      have xb1 := xb.cell 1 rfl
      have xbz1 := xb.frozen 1
      have xb2 := xb.cell 2 rfl
      have xbz2 := xb.frozen 2
      exact bodyPost_ret (v := .tuple #[.agg #[.int .i64 r.kind, .int .u64 (r.seq : Int), .int .u64 (r.data : Int)], .int .i64 E]) (by simp [results, Tryz.results57, go_sem, xo0, xo1, xo2]) rfl ⟨rfl, hB⟩

set_option maxRecDepth 100000 in
set_option maxHeartbeats 4000000 in
theorem own09Sound (s : ByteArray) (W : World) (hs : s.size ≤ maxLen) :
    Calls Tryz.prog 111 #[.string s] W fun e W' => e = .returned (.bool (soundB s)) ∧ Below W.heap.size W W' := by
  have TG := Lib.hid (fun (V : World) => own08Generation s V hs)
  have TLa := Lib.hid (fun (V : World) => own09Last s V hs)
  have HB := Lib.hid (show soundB s = (genE s == 0 && lastE s == 0) from rfl)
  generalize soundB s = B at *
  generalize genE s = a at *
  generalize lastE s = b at *
  generalize lastR s = r at *
  by_cases ha : a = 0
  · subst ha
    have hb2 := HB.out
    rw [show ((0 : Int) == 0 && b == 0) = (b == 0) from rfl] at hb2
    rw [hb2]
    clear hb2 HB
    have hB : Below W.heap.size W W := Below.refl _ _
    go_enter Tryz.func111, Tryz.ntmps111
    go_wp2_with fail
    refine (TG.out _).mono ?_
    rintro e V1 ⟨rfl, hk⟩
    replace hB := below_seq hB hk
    clear hk
    go_wp2_with fail
    refine (TLa.out _).mono ?_
    rintro e V2 ⟨rfl, hk⟩
    replace hB := below_seq hB hk
    clear hk
    have xt := Box.new 112 V2 [.int .i64 r.kind, .int .u64 (r.seq : Int), .int .u64 (r.data : Int)]
    have le_xt : W.heap.size ≤ V2.heap.size := hB.size
    replace hB := hB.alloc hB.size (.cells #[.int .i64 r.kind, .int .u64 (r.seq : Int), .int .u64 (r.data : Int)] 112)
    have xt0 := xt.cell 0 rfl
    have xtz0 := xt.frozen 0
    have xt1 := xt.cell 1 rfl
    have xtz1 := xt.frozen 1
    have xt2 := xt.cell 2 rfl
    have xtz2 := xt.frozen 2
    go_wp2
    go_ret
    exact ⟨rfl, hB⟩
  · have n1 : (a == 0) = false := beq_eq_false_iff_ne.2 ha
    have hb2 := HB.out
    rw [n1, Bool.false_and] at hb2
    rw [hb2]
    clear hb2 HB ha
    have hB : Below W.heap.size W W := Below.refl _ _
    go_enter Tryz.func111, Tryz.ntmps111
    go_wp2_with fail
    refine (TG.out _).mono ?_
    rintro e V1 ⟨rfl, hk⟩
    replace hB := below_seq hB hk
    clear hk
    go_wp2_with fail
    refine (TLa.out _).mono ?_
    rintro e V2 ⟨rfl, hk⟩
    replace hB := below_seq hB hk
    clear hk
    have xt := Box.new 112 V2 [.int .i64 r.kind, .int .u64 (r.seq : Int), .int .u64 (r.data : Int)]
    have le_xt : W.heap.size ≤ V2.heap.size := hB.size
    replace hB := hB.alloc hB.size (.cells #[.int .i64 r.kind, .int .u64 (r.seq : Int), .int .u64 (r.data : Int)] 112)
    have xt0 := xt.cell 0 rfl
    have xtz0 := xt.frozen 0
    have xt1 := xt.cell 1 rfl
    have xtz1 := xt.frozen 1
    have xt2 := xt.cell 2 rfl
    have xtz2 := xt.frozen 2
    go_wp2
    go_ret
    exact ⟨rfl, hB⟩

end Go.Proofs.YthmpjoiifglbjaaGreat

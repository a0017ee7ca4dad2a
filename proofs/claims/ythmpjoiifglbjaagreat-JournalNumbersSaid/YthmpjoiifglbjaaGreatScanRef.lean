/- The reference's functions of layer 9: contracts only. -/
import Derived.Test.YthmpjoiifglbjaaGreatScanPlain
import Derived.Test.YthmpjoiifglbjaaGreatBankRef
import Derived.Test.YthmpjoiifglbjaaGreatLayoutOwn
import Derived.Test.YthmpjoiifglbjaaGreatBs
import Derived.Deep.RegionHeld3
import Derived.WalkLawsBesides
import Derived.WalkSpells
import Derived.IntWalk
import Derived.Lib.Hide
namespace Go.Proofs.YthmpjoiifglbjaaGreat
open Go.RowKit
set_option linter.unusedVariables false
set_option linter.unusedSimpArgs false

set_option maxRecDepth 100000 in
set_option maxHeartbeats 4000000 in
theorem ref09Next (s : ByteArray) (W : World) (hs : s.size ≤ maxLen) :
    Gives Tryz.prog 42 #[.string s] W (.int .i64 (nextF s : Int)) := by
  have TL := Lib.hid (fun (V : World) => (show Calls Tryz.prog 53 #[.int .i64 (s.size : Int)] V fun e W' => e = .returned (.int .i64 (slotsN s : Int)) ∧ W' = V from by have h := ref05Slots (s.size : Int) V; rwa [← slotsN_eq] at h))
  have TS := Lib.hid (fun (j : Nat) (V : World) (h : j < 13) => ref08State s ((j + 1 : Nat) : Int) V hs ⟨by omega, by omega⟩)
  have hN := slotsN_le s
  have HS := Lib.hid (fun (j : Nat) (h : ¬ stateF s ((j : Int) + 1) = 0) => (show nextG s (j + 1) = j + 2 from by rw [nextG, if_pos h]))
  have HT := Lib.hid (fun (j : Nat) (h : stateF s ((j : Int) + 1) = 0) => (show nextG s (j + 1) = nextG s j from by rw [nextG, if_neg (fun x => x h)]))
  have h1 := nextG_le s (slotsN s)
  have HF := Lib.hid (show nextF s = if slotsN s < nextG s (slotsN s) then 0 else nextG s (slotsN s) from rfl)
  have HZ : nextG s 0 = 1 := rfl
  generalize nextF s = F at *
  generalize slotsN s = n at *
  have st := Bs.nil W
  go_enter Tryz.func42, Tryz.ntmps42
  go_wp2_with fail; refine callQ (TL.out _) ?_
  go_wp2
  go_loopw [4, 5] (fun x i w => ∃ j : Nat, j ≤ n ∧ i = .int .i64 ((j + 1 : Nat) : Int) ∧ x = .int .i64 (nextG s j : Int) ∧ Bs W w []) (fun _ i _ => n + 1 - (intOf i).toNat)
  case atStart => exact ⟨0, by omega, rfl, by rw [HZ]; rfl, st⟩
  case round =>
    clear st
    obtain ⟨j, hj, rfl, rfl, st⟩ := hrel
    by_cases hlt : j < n
    · have i1 : ((j + 1 : Nat) : Int) ≤ (n : Int) := by omega
      go_wp2_with fail; refine callB st (TS.out j _ (by omega)) ?_; clear st; intro V1 st
      by_cases hst : stateF s ((j : Int) + 1) = 0
      · have h := HT.out j hst
        have n1 : (stateF s ((j : Int) + 1) != 0) = false := by rw [hst]; rfl
        replace h := Lib.hid h
        clear hst
        go_wp2
        go_roundw
        case rel => exact ⟨j + 1, by omega, by go_num, by rw [h.out], st⟩
        case measure => simp [intOf]; omega
      · have h := HS.out j hst
        have n1 : (stateF s ((j : Int) + 1) != 0) = true := bne_iff_ne.2 hst
        replace h := Lib.hid h
        clear hst
        go_wp2
        go_roundw
        case rel => exact ⟨j + 1, by omega, by go_num, by rw [h.out]; go_num, st⟩
        case measure => simp [intOf]; omega
    · obtain rfl : j = n := by omega
      have i1 : ¬ ((j + 1 : Nat) : Int) ≤ (j : Int) := by omega
      by_cases hgt : j < nextG s j
      · have hF := HF.out
        rw [if_pos hgt] at hF
        have m1 : (nextG s j : Int) > (j : Int) := by omega
        clear hgt
        replace hF := Lib.hid hF
        go_wp2
        go_ret
        exact ⟨ret_int (by rw [hF.out]; rfl), st.lo⟩
      · have hF := HF.out
        rw [if_neg hgt] at hF
        have m1 : ¬ (nextG s j : Int) > (j : Int) := by omega
        clear hgt
        replace hF := Lib.hid hF
        go_wp2
        go_ret
        exact ⟨ret_int (by rw [hF.out]), st.lo⟩

set_option maxRecDepth 100000 in
set_option maxHeartbeats 4000000 in
theorem ref09Last (s : ByteArray) (W : World) (hs : s.size ≤ maxLen) :
    Gives Tryz.prog 33 #[.string s] W (.tuple #[.agg #[.int .i64 (lastR s).kind, .int .u64 ((lastR s).seq : Int), .int .u64 ((lastR s).data : Int)], .int .i64 (lastE s)]) := by
  have TL := Lib.hid (fun (V : World) => (show Calls Tryz.prog 53 #[.int .i64 (s.size : Int)] V fun e W' => e = .returned (.int .i64 (slotsN s : Int)) ∧ W' = V from by have h := ref05Slots (s.size : Int) V; rwa [← slotsN_eq] at h))
  have TS := Lib.hid (fun (j : Nat) (V : World) (h : j < 13) => ref08State s ((j + 1 : Nat) : Int) V hs ⟨by omega, by omega⟩)
  have hN := slotsN_le s
  have TR := Lib.hid (fun (j : Nat) (V : World) (h : j < 13) => (show Calls Tryz.prog 52 #[.string s, .int .i64 ((j + 1 : Nat) : Int)] V fun e W' => e = .returned (.tuple #[.agg #[.int .i64 (recF s ((j : Int) + 1)).kind, .int .u64 ((recF s ((j : Int) + 1)).seq : Int), .int .u64 ((recF s ((j : Int) + 1)).data : Int)], .int .i64 (decE (bl (slotT s ((j : Int) + 1))))]) ∧ Below V.heap.size V W' from by
    have h3 := ref08Record s ((j + 1 : Nat) : Int) V hs ⟨by omega, by omega⟩
    rwa [show ((j + 1 : Nat) : Int) = (j : Int) + 1 from by omega] at h3 ⊢))
  have HS := Lib.hid (fun (j : Nat) (h : ¬ stateF s ((j : Int) + 1) = 2) => (show lastG s (j + 1) = lastG s j from by rw [lastG, if_neg (fun x => h x.1)]))
  have HT := Lib.hid (fun (j : Nat) (h : stateF s ((j : Int) + 1) = 2) (k : ∀ b, lastG s j = some b → b.seq ≤ (recF s ((j : Int) + 1)).seq) => (show lastG s (j + 1) = some (recF s ((j : Int) + 1)) from by rw [lastG, if_pos ⟨h, k⟩]))
  have HU := Lib.hid (fun (j : Nat) (b : Rec) (k : lastG s j = some b) (h : ¬ b.seq ≤ (recF s ((j : Int) + 1)).seq) => (show lastG s (j + 1) = some b from by rw [lastG, if_neg (fun x => h (x.2 b k)), k]))
  have HE := Lib.hid (show lastE s = (if lastG s (slotsN s) = none then 10 else 0) from rfl)
  have HR := Lib.hid (show lastR s = (lastG s (slotsN s)).getD ⟨0, 0, 0⟩ from rfl)
  have HZ := Lib.hid (show lastG s 0 = none from rfl)
  generalize lastE s = E at *
  generalize lastR s = r at *
  generalize slotsN s = n at *
  have st := Bs.in2 W 87 [.int .i64 0, .int .u64 0, .int .u64 0] 87 [.int .i64 0, .int .u64 0, .int .u64 0]
  go_enter Tryz.func33, Tryz.ntmps33
  go_wp2
  go_loopw [5, 6] (fun x i w => ∃ (j : Nat) (g : Option Rec), j ≤ n ∧ i = .int .i64 ((j + 1 : Nat) : Int) ∧ lastG s j = g ∧ x = .int .i64 (if g = none then 10 else 0) ∧ Bs W w [(87, W.heap.size + 1, [.int .i64 (g.getD ⟨0, 0, 0⟩).kind, .int .u64 ((g.getD ⟨0, 0, 0⟩).seq : Int), .int .u64 ((g.getD ⟨0, 0, 0⟩).data : Int)]), (87, W.heap.size, [.int .i64 0, .int .u64 0, .int .u64 0])]) (fun _ i _ => n + 1 - (intOf i).toNat)
  case atStart => exact ⟨0, none, by omega, rfl, HZ.out, rfl, st⟩
  case round =>
    clear st
    obtain ⟨j, g, hj, rfl, hg, rfl, st⟩ := hrel
    by_cases hlt : j < n
    · cases g with
      | none =>
        have i1 : ((j + 1 : Nat) : Int) ≤ (n : Int) := by omega
        replace st : Bs W wr [(87, W.heap.size + 1, [.int .i64 0, .int .u64 0, .int .u64 0]), (87, W.heap.size, [.int .i64 0, .int .u64 0, .int .u64 0])] := st
        replace hg := Lib.hid hg
        have fc := And.intro (st.box 1 rfl).f3 (st.box 0 rfl).f3
        go_wp2_with fail; refine callQ (TL.out _) ?_
        go_wp2_with fail; refine callB st (TR.out j _ (by omega)) ?_; clear st fc; intro V1 st
        replace st := st.alloc 87 [.int .i64 (recF s ((j : Int) + 1)).kind, .int .u64 ((recF s ((j : Int) + 1)).seq : Int), .int .u64 ((recF s ((j : Int) + 1)).data : Int)]
        have fc := And.intro (st.box 2 rfl).f3 (And.intro (st.box 1 rfl).f3 (st.box 0 rfl).f3)
        go_wp2_with fail; refine callB st (TS.out j _ (by omega)) ?_; clear st fc; intro V2 st
        have fc := And.intro (st.box 2 rfl).f3 (And.intro (st.box 1 rfl).f3 (st.box 0 rfl).f3)
        by_cases hst : stateF s ((j : Int) + 1) = 2
        · have n1 : (stateF s ((j : Int) + 1) == 2) = true := beq_iff_eq.2 hst
          have hl := Lib.hid (HT.out j hst (fun c hc => by rw [hg.out] at hc; cases hc))
          clear hst
          generalize recF s ((j : Int) + 1) = y at *
          go_wp2
          clear fc
          replace st := st.put3 1 (.int .i64 y.kind) (.int .u64 (y.seq : Int)) (.int .u64 (y.data : Int)) rfl; obtain ⟨V3, hV, st⟩ := st; rw [hV]; clear hV
          go_roundw
          case rel => exact ⟨j + 1, some y, by omega, by go_num, hl.out, rfl, st.tl⟩
          case measure => simp [intOf]; omega
        · have hl := Lib.hid ((HS.out j hst).trans hg.out)
          have n1 : (stateF s ((j : Int) + 1) == 2) = false := beq_eq_false_iff_ne.2 hst
          clear hst
          generalize recF s ((j : Int) + 1) = y at *
          go_wp2
          go_roundw
          clear fc
          case rel => exact ⟨j + 1, none, by omega, by go_num, hl.out, rfl, st.tl⟩
          case measure => simp [intOf]; omega
      | some b =>
        have i1 : ((j + 1 : Nat) : Int) ≤ (n : Int) := by omega
        replace st : Bs W wr [(87, W.heap.size + 1, [.int .i64 b.kind, .int .u64 (b.seq : Int), .int .u64 (b.data : Int)]), (87, W.heap.size, [.int .i64 0, .int .u64 0, .int .u64 0])] := st
        replace hg := Lib.hid hg
        have fc := And.intro (st.box 1 rfl).f3 (st.box 0 rfl).f3
        go_wp2_with fail; refine callQ (TL.out _) ?_
        go_wp2_with fail; refine callB st (TR.out j _ (by omega)) ?_; clear st fc; intro V1 st
        replace st := st.alloc 87 [.int .i64 (recF s ((j : Int) + 1)).kind, .int .u64 ((recF s ((j : Int) + 1)).seq : Int), .int .u64 ((recF s ((j : Int) + 1)).data : Int)]
        have fc := And.intro (st.box 2 rfl).f3 (And.intro (st.box 1 rfl).f3 (st.box 0 rfl).f3)
        go_wp2_with fail; refine callB st (TS.out j _ (by omega)) ?_; clear st fc; intro V2 st
        have fc := And.intro (st.box 2 rfl).f3 (And.intro (st.box 1 rfl).f3 (st.box 0 rfl).f3)
        by_cases hst : stateF s ((j : Int) + 1) = 2
        · have n1 : (stateF s ((j : Int) + 1) == 2) = true := beq_iff_eq.2 hst
          by_cases hle : b.seq ≤ (recF s ((j : Int) + 1)).seq
          · have hl := Lib.hid (HT.out j hst (fun c hc => by rw [hg.out] at hc; cases hc; exact hle))
            have m1 : ((recF s ((j : Int) + 1)).seq : Int) ≥ (b.seq : Int) := by omega
            clear hst hle
            generalize recF s ((j : Int) + 1) = y at *
            go_wp2
            clear fc
            replace st := st.put3 1 (.int .i64 y.kind) (.int .u64 (y.seq : Int)) (.int .u64 (y.data : Int)) rfl; obtain ⟨V3, hV, st⟩ := st; rw [hV]; clear hV
            go_roundw
            case rel => exact ⟨j + 1, some y, by omega, by go_num, hl.out, rfl, st.tl⟩
            case measure => simp [intOf]; omega
          · have hl := Lib.hid (HU.out j b hg.out hle)
            have m1 : ¬ ((recF s ((j : Int) + 1)).seq : Int) ≥ (b.seq : Int) := by omega
            clear hst hle
            generalize recF s ((j : Int) + 1) = y at *
            go_wp2
            go_roundw
            clear fc
            case rel => exact ⟨j + 1, some b, by omega, by go_num, hl.out, rfl, st.tl⟩
            case measure => simp [intOf]; omega
        · have hl := Lib.hid ((HS.out j hst).trans hg.out)
          have n1 : (stateF s ((j : Int) + 1) == 2) = false := beq_eq_false_iff_ne.2 hst
          clear hst
          generalize recF s ((j : Int) + 1) = y at *
          go_wp2
          go_roundw
          clear fc
          case rel => exact ⟨j + 1, some b, by omega, by go_num, hl.out, rfl, st.tl⟩
          case measure => simp [intOf]; omega
    · obtain rfl : j = n := by omega
      have i1 : ¬ ((j + 1 : Nat) : Int) ≤ (j : Int) := by omega
      have hE := HE.out
      have hR := HR.out
      rw [hg] at hE hR
      rw [← hE]
      rw [← hR] at st
      clear hE hR hg HE HR
      have fc := And.intro (st.box 1 rfl).f3 (st.box 0 rfl).f3
      go_wp2_with fail; refine callQ (TL.out _) ?_
      go_wp2
      clear fc
      replace st := st.put3 1 (.int .i64 r.kind) (.int .u64 (r.seq : Int)) (.int .u64 (r.data : Int)) rfl; obtain ⟨V1, hV, st⟩ := st; rw [hV]; clear hV
      have fc := And.intro (st.box 1 rfl).f3 (st.box 0 rfl).f3
      exact bodyPost_ret (v := .tuple #[.agg #[.int .i64 r.kind, .int .u64 (r.seq : Int), .int .u64 (r.data : Int)], .int .i64 E]) (by simp [results, Tryz.results33, go_sem, fc]) rfl ⟨rfl, st.lo⟩

set_option maxRecDepth 100000 in
set_option maxHeartbeats 4000000 in
theorem ref09Sound (s : ByteArray) (W : World) (hs : s.size ≤ maxLen) :
    Gives Tryz.prog 50 #[.string s] W (.bool (soundB s)) := by
  have TG := Lib.hid (fun (V : World) => ref08Generation s V hs)
  have TLa := Lib.hid (fun (V : World) => ref09Last s V hs)
  have HB := Lib.hid (show soundB s = (genE s == 0 && lastE s == 0) from rfl)
  generalize soundB s = B at *
  generalize genE s = a at *
  generalize lastE s = b at *
  generalize lastR s = r at *
  by_cases ha : a = 0
  · subst ha
    have hb2 := HB.out
    rw [show ((0 : Int) == 0 && b == 0) = (b == 0) from rfl] at hb2
    rw [hb2]
    clear hb2 HB
    have st := Bs.nil W
    go_enter Tryz.func50, Tryz.ntmps50
    go_wp2_with fail; refine callB st (TG.out _) ?_; clear st; intro V1 st
    go_wp2_with fail; refine callB st (TLa.out _) ?_; clear st; intro V2 st
    replace st := st.alloc 87 [.int .i64 r.kind, .int .u64 (r.seq : Int), .int .u64 (r.data : Int)]
    have fc := (st.box 0 rfl).f3
    go_wp2; go_ret; exact ⟨rfl, st.lo⟩
  · have n1 : (a == 0) = false := beq_eq_false_iff_ne.2 ha
    have hb2 := HB.out
    rw [n1, Bool.false_and] at hb2
    rw [hb2]
    clear hb2 HB ha
    have st := Bs.nil W
    go_enter Tryz.func50, Tryz.ntmps50
    go_wp2_with fail; refine callB st (TG.out _) ?_; clear st; intro V1 st
    go_wp2_with fail; refine callB st (TLa.out _) ?_; clear st; intro V2 st
    replace st := st.alloc 87 [.int .i64 r.kind, .int .u64 (r.seq : Int), .int .u64 (r.data : Int)]
    have fc := (st.box 0 rfl).f3
    go_wp2; go_ret; exact ⟨rfl, st.lo⟩

end Go.Proofs.YthmpjoiifglbjaaGreat

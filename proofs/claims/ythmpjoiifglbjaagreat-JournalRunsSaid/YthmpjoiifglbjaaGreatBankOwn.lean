/- The program's own functions of layer 8: contracts only. -/
import Derived.RangeFuncNested
import Derived.RangeFuncBound
import Derived.RangeFuncCalls
import Derived.RangeFuncLeaves
import Derived.RangeFuncBox
import Derived.Shelf.Abstract
import Derived.Shelf.RegionOpen
import Derived.WalkKit
import Derived.OwnWalkIn
import Derived.TacticsInMore
import Derived.LoopNIn
import Derived.LoopIn
import Derived.Stop.RegionWithIn
import Derived.Deep.RegionHeld3
import Derived.Maps.AppendAt
import Derived.Lib.Hide
import Derived.ProofKit
import Derived.OwnWalk
import Derived.WalkLawsBesides
import Derived.Test.YthmpjoiifglbjaaGreatBankIt
import Derived.Test.YthmpjoiifglbjaaGreatRecOwn
import Derived.Test.YthmpjoiifglbjaaGreatBox
import Derived.Test.YthmpjoiifglbjaaGreatIntsAt
namespace Go.Proofs.YthmpjoiifglbjaaGreat
open Go.RowKit Go.Shelf
set_option linter.unusedVariables false
set_option linter.unusedSimpArgs false
attribute [local go_sem] Oper.semAt_some

set_option maxRecDepth 100000 in
set_option maxHeartbeats 4000000 in
theorem own08Record (s : ByteArray) (i : Int) (W : World) (hs : s.size ≤ maxLen) (hi : -9223372036854775808 ≤ i ∧ i ≤ 9223372036854775807) :
    Calls Tryz.prog 87 #[.string s, .int .i64 i] W fun e W' => e = .returned (.tuple #[.agg #[.int .i64 (decR (bl (slotT s i))).kind, .int .u64 ((decR (bl (slotT s i))).seq : Int), .int .u64 ((decR (bl (slotT s i))).data : Int)], .int .i64 (decE (bl (slotT s i)))]) ∧ Below W.heap.size W W' := by
  have T1 := Lib.hid (fun (V : World) => own08Slot s i V hs hi)
  have T2 := Lib.hid (fun (V : World) => own07Decode (slotT s i) V (by have := slotT_small s i; omega))
  generalize decE (bl (slotT s i)) = E at *
  generalize decR (bl (slotT s i)) = r at *
  generalize slotT s i = S at *
  have hB : Below W.heap.size W (W.alloc (.cells #[.int .i64 0, .int .u64 0, .int .u64 0] 112)) := ((Below.refl _ _).alloc (Nat.le_refl _) _)
  have xr := (Box.new 112 W [.int .i64 0, .int .u64 0, .int .u64 0])
  go_enter Tryz.func87, Tryz.ntmps87
  go_wp2_with fail
  refine (T1.out _).mono ?_
  rintro e V1 ⟨rfl, hk⟩
  replace hB := below_seq hB hk
  replace xr := xr.seq hk
  clear hk
  have xr0 := xr.cell 0 rfl
  have xrz0 := xr.frozen 0
  have xr1 := xr.cell 1 rfl
  have xrz1 := xr.frozen 1
  have xr2 := xr.cell 2 rfl
  have xrz2 := xr.frozen 2
  go_wp2_with fail
  refine (T2.out _).mono ?_
  rintro e V2 ⟨rfl, hk⟩
  clear xr0 xrz0 xr1 xrz1 xr2 xrz2
  replace hB := below_seq hB hk
  replace xr := xr.seq hk
  clear hk
  have xr0 := xr.cell 0 rfl
  have xrz0 := xr.frozen 0
  have xr1 := xr.cell 1 rfl
  have xrz1 := xr.frozen 1
  have xr2 := xr.cell 2 rfl
  have xrz2 := xr.frozen 2
  go_wp2
  clear xr0 xrz0 xr1 xrz1 xr2 xrz2
  replace xr : Box 112 (((V2.setCell ⟨W.heap.size, 0, none⟩ (.int .i64 r.kind)).setCell ⟨W.heap.size, 1, none⟩ (.int .u64 (r.seq : Int))).setCell ⟨W.heap.size, 2, none⟩ (.int .u64 (r.data : Int))) (W.heap.size) [.int .i64 r.kind, .int .u64 (r.seq : Int), .int .u64 (r.data : Int)] := (((xr.set 0 (.int .i64 r.kind)).set 1 (.int .u64 (r.seq : Int))).set 2 (.int .u64 (r.data : Int)))
  replace hB : Below W.heap.size W (((V2.setCell ⟨W.heap.size, 0, none⟩ (.int .i64 r.kind)).setCell ⟨W.heap.size, 1, none⟩ (.int .u64 (r.seq : Int))).setCell ⟨W.heap.size, 2, none⟩ (.int .u64 (r.data : Int))) := (((hB.setCell (Nat.le_refl _) _).setCell (Nat.le_refl _) _).setCell (Nat.le_refl _) _)
  generalize (((V2.setCell ⟨W.heap.size, 0, none⟩ (.int .i64 r.kind)).setCell ⟨W.heap.size, 1, none⟩ (.int .u64 (r.seq : Int))).setCell ⟨W.heap.size, 2, none⟩ (.int .u64 (r.data : Int))) = V3 at *
  have xr0 := xr.cell 0 rfl
  have xrz0 := xr.frozen 0
  have xr1 := xr.cell 1 rfl
  have xrz1 := xr.frozen 1
  have xr2 := xr.cell 2 rfl
  have xrz2 := xr.frozen 2
  exact bodyPost_ret (v := .tuple #[.agg #[.int .i64 r.kind, .int .u64 (r.seq : Int), .int .u64 (r.data : Int)], .int .i64 E]) (by simp [results, Tryz.results87, go_sem, xr0, xr1, xr2]) rfl ⟨rfl, hB⟩

set_option maxRecDepth 100000 in
set_option maxHeartbeats 4000000 in
theorem own08State (s : ByteArray) (i : Int) (W : World) (hs : s.size ≤ maxLen) (hi : -9223372036854775808 ≤ i ∧ i ≤ 9223372036854775807) :
    Calls Tryz.prog 86 #[.string s, .int .i64 i] W fun e W' => e = .returned (.int .i64 (stateF s i)) ∧ Below W.heap.size W W' := by
  have T := Lib.hid (fun (V : World) => own08Record s i V hs hi)
  have HS := (show stateF s i = if decE (bl (slotT s i)) = 5 then 0 else if decE (bl (slotT s i)) = 0 ∧ ((decR (bl (slotT s i))).kind = 1 ↔ i = 0) then 2 else 1 from rfl)
  rw [HS]
  clear HS
  generalize decE (bl (slotT s i)) = E at *
  generalize decR (bl (slotT s i)) = r at *
  by_cases h5 : E = 5
  · subst h5
    rw [show (if (5 : Int) = 5 then (0 : Int) else if (5 : Int) = 0 ∧ (r.kind = 1 ↔ (i : Int) = 0) then 2 else 1) = 0 from if_pos rfl]
    have hB : Below W.heap.size W W := Below.refl _ _
    go_enter Tryz.func86, Tryz.ntmps86
    go_wp2_with fail
    refine (T.out _).mono ?_
    rintro e V1 ⟨rfl, hk⟩
    replace hB := below_seq hB hk
    clear hk
    have xr := Box.new 112 V1 [.int .i64 r.kind, .int .u64 (r.seq : Int), .int .u64 (r.data : Int)]
    have le_xr : W.heap.size ≤ V1.heap.size := hB.size
    replace hB := hB.alloc hB.size (.cells #[.int .i64 r.kind, .int .u64 (r.seq : Int), .int .u64 (r.data : Int)] 112)
    have xr0 := xr.cell 0 rfl
    have xrz0 := xr.frozen 0
    have xr1 := xr.cell 1 rfl
    have xrz1 := xr.frozen 1
    have xr2 := xr.cell 2 rfl
    have xrz2 := xr.frozen 2
    go_wp2
    go_ret
    exact ⟨rfl, hB⟩
  · have n5 : (E == 5) = false := beq_eq_false_iff_ne.2 h5
    by_cases h0 : E = 0
    · subst h0
      by_cases hk : r.kind = 1
      · by_cases hz : i = 0
        · subst hz
          rw [show (if (0 : Int) = 5 then (0 : Int) else if (0 : Int) = 0 ∧ (r.kind = 1 ↔ (0 : Int) = 0) then 2 else 1) = 2 from by simp [hk]]
          obtain ⟨kk, ss, dd⟩ := r
          dsimp only at *
          subst hk
          have hB : Below W.heap.size W W := Below.refl _ _
          go_enter Tryz.func86, Tryz.ntmps86
          go_wp2_with fail
          refine (T.out _).mono ?_
          rintro e V1 ⟨rfl, hk⟩
          replace hB := below_seq hB hk
          clear hk
          have xr := Box.new 112 V1 [.int .i64 1, .int .u64 (ss : Int), .int .u64 (dd : Int)]
          have le_xr : W.heap.size ≤ V1.heap.size := hB.size
          replace hB := hB.alloc hB.size (.cells #[.int .i64 1, .int .u64 (ss : Int), .int .u64 (dd : Int)] 112)
          have xr0 := xr.cell 0 rfl
          have xrz0 := xr.frozen 0
          have xr1 := xr.cell 1 rfl
          have xrz1 := xr.frozen 1
          have xr2 := xr.cell 2 rfl
          have xrz2 := xr.frozen 2
          go_wp2
          go_ret
          exact ⟨rfl, hB⟩
        · skip
          rw [show (if (0 : Int) = 5 then (0 : Int) else if (0 : Int) = 0 ∧ (r.kind = 1 ↔ (i : Int) = 0) then 2 else 1) = 1 from by simp [hk, hz]]
          obtain ⟨kk, ss, dd⟩ := r
          dsimp only at *
          subst hk
          have n2 : (i == 0) = false := beq_eq_false_iff_ne.2 hz
          clear hz
          have hB : Below W.heap.size W W := Below.refl _ _
          go_enter Tryz.func86, Tryz.ntmps86
          go_wp2_with fail
          refine (T.out _).mono ?_
          rintro e V1 ⟨rfl, hk⟩
          replace hB := below_seq hB hk
          clear hk
          have xr := Box.new 112 V1 [.int .i64 1, .int .u64 (ss : Int), .int .u64 (dd : Int)]
          have le_xr : W.heap.size ≤ V1.heap.size := hB.size
          replace hB := hB.alloc hB.size (.cells #[.int .i64 1, .int .u64 (ss : Int), .int .u64 (dd : Int)] 112)
          have xr0 := xr.cell 0 rfl
          have xrz0 := xr.frozen 0
          have xr1 := xr.cell 1 rfl
          have xrz1 := xr.frozen 1
          have xr2 := xr.cell 2 rfl
          have xrz2 := xr.frozen 2
          go_wp2
          go_ret
          exact ⟨rfl, hB⟩
      · by_cases hz : i = 0
        · subst hz
          rw [show (if (0 : Int) = 5 then (0 : Int) else if (0 : Int) = 0 ∧ (r.kind = 1 ↔ (0 : Int) = 0) then 2 else 1) = 1 from by simp [hk]]
          have n1 : (r.kind == 1) = false := beq_eq_false_iff_ne.2 hk
          clear hk
          have hB : Below W.heap.size W W := Below.refl _ _
          go_enter Tryz.func86, Tryz.ntmps86
          go_wp2_with fail
          refine (T.out _).mono ?_
          rintro e V1 ⟨rfl, hk⟩
          replace hB := below_seq hB hk
          clear hk
          have xr := Box.new 112 V1 [.int .i64 r.kind, .int .u64 (r.seq : Int), .int .u64 (r.data : Int)]
          have le_xr : W.heap.size ≤ V1.heap.size := hB.size
          replace hB := hB.alloc hB.size (.cells #[.int .i64 r.kind, .int .u64 (r.seq : Int), .int .u64 (r.data : Int)] 112)
          have xr0 := xr.cell 0 rfl
          have xrz0 := xr.frozen 0
          have xr1 := xr.cell 1 rfl
          have xrz1 := xr.frozen 1
          have xr2 := xr.cell 2 rfl
          have xrz2 := xr.frozen 2
          go_wp2
          go_ret
          exact ⟨rfl, hB⟩
        · skip
          rw [show (if (0 : Int) = 5 then (0 : Int) else if (0 : Int) = 0 ∧ (r.kind = 1 ↔ (i : Int) = 0) then 2 else 1) = 2 from by simp [hk, hz]]
          have n1 : (r.kind == 1) = false := beq_eq_false_iff_ne.2 hk
          have n2 : (i == 0) = false := beq_eq_false_iff_ne.2 hz
          clear hk hz
          have hB : Below W.heap.size W W := Below.refl _ _
          go_enter Tryz.func86, Tryz.ntmps86
          go_wp2_with fail
          refine (T.out _).mono ?_
          rintro e V1 ⟨rfl, hk⟩
          replace hB := below_seq hB hk
          clear hk
          have xr := Box.new 112 V1 [.int .i64 r.kind, .int .u64 (r.seq : Int), .int .u64 (r.data : Int)]
          have le_xr : W.heap.size ≤ V1.heap.size := hB.size
          replace hB := hB.alloc hB.size (.cells #[.int .i64 r.kind, .int .u64 (r.seq : Int), .int .u64 (r.data : Int)] 112)
          have xr0 := xr.cell 0 rfl
          have xrz0 := xr.frozen 0
          have xr1 := xr.cell 1 rfl
          have xrz1 := xr.frozen 1
          have xr2 := xr.cell 2 rfl
          have xrz2 := xr.frozen 2
          go_wp2
          go_ret
          exact ⟨rfl, hB⟩
    · skip
      rw [show (if (E : Int) = 5 then (0 : Int) else if (E : Int) = 0 ∧ (r.kind = 1 ↔ (i : Int) = 0) then 2 else 1) = 1 from by rw [if_neg h5, if_neg (fun h => h0 h.1)]]
      have n0 : (E == 0) = false := beq_eq_false_iff_ne.2 h0
      clear h0 h5
      have hB : Below W.heap.size W W := Below.refl _ _
      go_enter Tryz.func86, Tryz.ntmps86
      go_wp2_with fail
      refine (T.out _).mono ?_
      rintro e V1 ⟨rfl, hk⟩
      replace hB := below_seq hB hk
      clear hk
      have xr := Box.new 112 V1 [.int .i64 r.kind, .int .u64 (r.seq : Int), .int .u64 (r.data : Int)]
      have le_xr : W.heap.size ≤ V1.heap.size := hB.size
      replace hB := hB.alloc hB.size (.cells #[.int .i64 r.kind, .int .u64 (r.seq : Int), .int .u64 (r.data : Int)] 112)
      have xr0 := xr.cell 0 rfl
      have xrz0 := xr.frozen 0
      have xr1 := xr.cell 1 rfl
      have xrz1 := xr.frozen 1
      have xr2 := xr.cell 2 rfl
      have xrz2 := xr.frozen 2
      go_wp2
      go_ret
      exact ⟨rfl, hB⟩

set_option maxRecDepth 100000 in
set_option maxHeartbeats 4000000 in
theorem own08Generation (s : ByteArray) (W : World) (hs : s.size ≤ maxLen) :
    Calls Tryz.prog 56 #[.string s] W fun e W' => e = .returned (.tuple #[.int .u64 (genN s : Int), .int .i64 (genE s)]) ∧ Below W.heap.size W W' := by
  have T1 := Lib.hid (fun (V : World) => own08State s 0 V hs ⟨by decide, by decide⟩)
  have T2 := Lib.hid (fun (V : World) => own08Record s 0 V hs ⟨by decide, by decide⟩)
  unfold genN genE
  generalize stateF s 0 = z at *
  generalize decE (bl (slotT s 0)) = E at *
  generalize decR (bl (slotT s 0)) = r at *
  by_cases hz : z = 2
  · subst hz
    rw [if_pos rfl, if_pos rfl]
    have hB : Below W.heap.size W W := Below.refl _ _
    go_enter Tryz.func56, Tryz.ntmps56
    go_wp2_with fail
    refine (T1.out _).mono ?_
    rintro e V1 ⟨rfl, hk⟩
    replace hB := below_seq hB hk
    clear hk
    go_wp2_with fail
    refine (T2.out _).mono ?_
    rintro e V2 ⟨rfl, hk⟩
    replace hB := below_seq hB hk
    clear hk
    have xr := Box.new 112 V2 [.int .i64 r.kind, .int .u64 (r.seq : Int), .int .u64 (r.data : Int)]
    have le_xr : W.heap.size ≤ V2.heap.size := hB.size
    replace hB := hB.alloc hB.size (.cells #[.int .i64 r.kind, .int .u64 (r.seq : Int), .int .u64 (r.data : Int)] 112)
    have xr0 := xr.cell 0 rfl
    have xrz0 := xr.frozen 0
    have xr1 := xr.cell 1 rfl
    have xrz1 := xr.frozen 1
    have xr2 := xr.cell 2 rfl
    have xrz2 := xr.frozen 2
    go_wp2
    go_ret2
    exact ⟨rfl, hB⟩
  · rw [if_neg hz, if_neg hz]
    have n1 : (z != 2) = true := bne_iff_ne.2 hz
    clear hz
    have hB : Below W.heap.size W W := Below.refl _ _
    go_enter Tryz.func56, Tryz.ntmps56
    go_wp2_with fail
    refine (T1.out _).mono ?_
    rintro e V1 ⟨rfl, hk⟩
    replace hB := below_seq hB hk
    clear hk
    go_wp2
    go_ret2
    exact ⟨rfl, hB⟩

theorem placesI_any (s : ByteArray) (W : World) :
    Calls Tryz.prog 114 #[.string s, .func (.func 86) #[] #[]] W fun e W' =>
      e = .returned (.func (.func 135) #[] #[.pointer (some ⟨W.heap.size, 0, none⟩), .pointer (some ⟨W.heap.size + 1, 0, none⟩)]) ∧
      W' = (W.alloc (.cells #[.string s] 9)).alloc (.cells #[.func (.func 86) #[] #[]] 110) := by
  go_enter Tryz.func114, Tryz.ntmps114
  go_wp2
  go_ret
  exact ⟨by simp, rfl⟩

set_option maxRecDepth 100000 in
set_option maxHeartbeats 4000000 in
theorem placesI_stops (n : Nat) (hn : 2 ≤ n) (B : Nat) (s : ByteArray) (hs : s.size ≤ maxLen)
    (w0 : World) (b0 : Boxed w0 B 9 (.string s)) (b1 : Boxed w0 (B + 1) 110 (.func (.func 86) #[] #[])) :
    SeqStopsK Fence.wide n Tryz.prog 135 #[.pointer (some ⟨B, 0, none⟩), .pointer (some ⟨B + 1, 0, none⟩)]
      (fun x : Nat => #[.int .i64 (x : Int), .int .i64 (stateF s (x : Int))]) (Keeps2 B) (fun ys => ys = placesL s) (fun _ => True) 13 w0 := by
  intro l J Jx W hW hJ hJx hY h0
  have hlt1 := b1.lt
  have h1 : 1 ≤ n := by omega
  have k0 : Keeps2 B w0 W := fun b h1 h2 => hW.block b (by omega)
  have hsl := slots_le s.size
  have TC := Lib.hid (fun (V : World) => lay05Slots s.size V)
  refine callsIn_of_wp Tryz.func135 rfl trivial ?_ rfl
  simp only [Tryz.ntmps135, List.size_toArray, List.length_cons, List.length_nil, Nat.reduceAdd, Nat.reduceSub, Array.replicate_succ, Array.replicate_zero, List.push_toArray, List.append_toArray, List.nil_append, List.cons_append]
  have c0 := (k0.box (b := B) (by omega) (by omega) b0).cell
  by_cases hz : slotsF s.size = 0
  · have HE := Lib.hid (show placesL s = [] from if_pos hz)
    rw [hz] at TC
    gi_wp2_with (first | (refine ⟨trivial, ?_⟩; gi_at_call 54; refine (callsIn_wide.2 (TC.out _)).mono ?_; rintro e w' ⟨rfl, rfl⟩) | fail)
    refine bodyPost_ret (results_none rfl _ _ _) rfl ?_
    exact ⟨⟨_, rfl⟩, .inl ⟨_, HE.out.symm, h0⟩⟩
  · have HE := Lib.hid (show placesL s = List.range ((slotsF s.size).toNat + 1) from if_neg hz)
    obtain ⟨m, hm⟩ : ∃ m : Nat, slotsF s.size = (m : Int) := ⟨(slotsF s.size).toNat, by omega⟩
    have HZ := Lib.hid hz
    rw [hm] at TC HE hz hsl
    have hz0 : ((m : Int) == 0) = false := by simpa using hz
    gi_wp2_with (first | (refine ⟨trivial, ?_⟩; gi_at_call 54; refine (callsIn_wide.2 (TC.out _)).mono ?_; rintro e w' ⟨rfl, rfl⟩) | fail)
    clear c0 hz hz0
    gi_loopw [5] (fun i wr => ∃ k : Nat, k ≤ m + 1 ∧ i = .int .i64 k ∧ J (List.range k) wr ∧ Keeps2 B w0 wr)
      (fun i _ => m + 1 - (intOf i).toNat)
    case atStart => exact ⟨0, Nat.zero_le _, rfl, h0, k0⟩
    case round =>
      obtain ⟨k, hk, rfl, hJs, hK⟩ := hrel
      by_cases hlt : k ≤ m
      · have c0 := (hK.box (b := B) (by omega) (by omega) b0).cell
        have c1 := (hK.box (b := B + 1) (by omega) (by omega) b1).cell
        have hbz := (hK.box (b := B + 1) (by omega) (by omega) b1).lt
        have CK := Lib.hid (fun (V : World) => own08State s (k : Int) V hs ⟨by omega, by omega⟩)
        have HY := Lib.hid hY
        clear hY
        gi_wp2_with (first
          | (refine ⟨trivial, ?_⟩; gi_at_call 86; refine (callsIn_wide.2 (CK.out _)).mono ?_; rintro e V ⟨rfl, hk2⟩
             have hb : Below wr.heap.size wr V := ⟨hk2.os, hk2.tape, hk2.output, hk2.size, hk2.block⟩
             have hJ2 : J (List.range k) V := hJ _ wr _ none hJs ⟨hb.os, hb.tape, hb.output, hb.size, fun b h _ => hb.block b h⟩ (fun r e => by cases e)
             have hK2 : Keeps2 B w0 V := hK.trans (fun b h1 h2 => hb.block b (by omega))
             obtain ⟨fn, tmps, assign, body, hy, hR⟩ := HY.out (List.range k) k V hJ2 (by simp; omega)
             clear hk2 hb hJ2 hJs hK c0 c1 hbz)
          | fail)
        refine hR.mono ?_
        rintro e W3 (⟨rfl, hJ3, hk3⟩ | ⟨rfl, hJx3⟩)
        · gi_wp2
          go_roundw
          case rel => exact ⟨k + 1, by omega, by simp, by rw [List.range_succ]; exact hJ3, hK2.trans hk3⟩
          case measure => simp [intOf]; omega
        · gi_wp2
          refine bodyPost_ret (results_none rfl _ _ _) rfl ?_
          exact ⟨⟨_, rfl⟩, .inr ⟨_, trivial, hJx3⟩⟩
      · obtain rfl : k = m + 1 := by omega
        gi_wp2
        go_end0
        exact ⟨⟨_, rfl⟩, .inl ⟨_, rfl, by rw [HE.out]; exact hJs⟩⟩

/-- What the first places tell of their states, the header's left out. -/
def toldL (s : ByteArray) (pre : List Nat) : List Int := (pre.filter fun (x : Nat) => decide (x ≠ 0)).map fun (x : Nat) => stateF s (x : Int)
theorem told_hit (s : ByteArray) (pre : List Nat) {x : Nat} (h : x ≠ 0) : toldL s (pre ++ [x]) = toldL s pre ++ [stateF s (x : Int)] := by simp [toldL, h]
theorem told_miss (s : ByteArray) (pre : List Nat) {x : Nat} (h : x = 0) : toldL s (pre ++ [x]) = toldL s pre := by simp [toldL, h]
theorem told_len (s : ByteArray) (pre : List Nat) : (toldL s pre).length ≤ pre.length := by
  unfold toldL; rw [List.length_map]; exact List.length_filter_le _ _
theorem told_all (s : ByteArray) : toldL s (placesL s) = statesL s := by
  unfold placesL statesL toldL
  split
  · rename_i h; rw [h]; rfl
  · rw [List.range_succ_eq_map]; simp only [List.filter_cons, List.filter_map, Function.comp_def]; simp; rw [List.filter_eq_self.2 (fun _ _ => rfl)]; exact List.map_congr_left (fun j _ => by simp only [Function.comp, Nat.succ_eq_add_one]; congr 1)
theorem ints_of_owns {W : World} {base : Nat} {e : TypeId} {v : Value} {l : List Int} (h : W.ownsRow base e 1 v l.length (l.map (Value.int .i64))) : ∃ A c, v = .slice A l.length c ∧ IntsAt W A l := by
  rcases h.2 with ⟨rfl, h0⟩ | ⟨g, cap, cur, rfl, _, hg, _⟩
  · exact ⟨none, 0, by rw [h0], fun hn => by omega⟩
  · refine ⟨some ⟨g, 0, none⟩, cap, rfl, fun _ => ⟨g, 0, rfl, (Array.getElem?_eq_some_iff.1 hg).1, fun k v hk => ?_⟩⟩
    have := h.cells (g := g) rfl k (.int .i64 v) (by rw [List.getElem?_map, hk]; rfl)
    rw [show (⟨g, 0 + k, none⟩ : Addr) = (⟨g, 0, none⟩ : Addr).add k from by simp [Addr.add]]; exact this

theorem info_int08 : (Tryz.prog.info? 3).map (fun i => (i.zero, i.size, i.bytes)) = some (some (.int .i64 0), 1, 8) := by kernel_rfl

set_option maxRecDepth 100000 in
set_option maxHeartbeats 4000000 in
theorem own08States (s : ByteArray) (W : World) (hs : s.size ≤ maxLen) :
    Calls Tryz.prog 88 #[.string s] W fun e W' => ∃ A c, e = .returned (.slice A (statesL s).length c) ∧ IntsAt W' A (statesL s) ∧ Below W.heap.size W W' := by
  obtain ⟨i0, hi, hz0, hz1, hz2⟩ := info_parts info_int08
  refine (callsIn_wide (n := 3)).1 ?_
  refine callsIn_of_wp_marks Tryz.func88 rfl trivial ?_ rfl
  simp only [Tryz.ntmps88, List.size_toArray, List.length_cons, List.length_nil, Nat.reduceAdd, Nat.reduceSub, Array.replicate_succ, Array.replicate_zero, List.push_toArray, List.append_toArray, List.nil_append, List.cons_append]
  gi_wp2_with (refine ⟨trivial, ?_⟩; gi_at_call 114; refine (callsIn_wide.2 (placesI_any _ _)).mono ?_; rintro e w' ⟨rfl, rfl⟩)
  have b0 := (((Boxed.new W 145 (.slice none 0 0)).alloc (.cells #[.string s] 9)).alloc (.cells #[.func (.func 86) #[] #[]] 110))
  have b1 := ((Boxed.new (W.alloc (.cells #[.slice none 0 0] 145)) 9 (.string s)).alloc (.cells #[.func (.func 86) #[] #[]] 110))
  have b2 := (Boxed.new ((W.alloc (.cells #[.slice none 0 0] 145)).alloc (.cells #[.string s] 9)) 110 (.func (.func 86) #[] #[]))
  simp only [World.size_alloc] at b1 b2
  have hB0 := ((((Below.refl W.heap.size W).alloc (Nat.le_refl _) (.cells #[.slice none 0 0] 145)).alloc (by simp) (.cells #[.string s] 9)).alloc (by simp; omega) (.cells #[.func (.func 86) #[] #[]] 110))
  have hsz : ((((W.alloc (.cells #[.slice none 0 0] 145)).alloc (.cells #[.string s] 9)).alloc (.cells #[.func (.func 86) #[] #[]] 110))).heap.size = W.heap.size + 3 := by simp
  obtain ⟨W0, hW0⟩ : ∃ W0, (((W.alloc (.cells #[.slice none 0 0] 145)).alloc (.cells #[.string s] 9)).alloc (.cells #[.func (.func 86) #[] #[]] 110)) = W0 := ⟨_, rfl⟩
  rw [hW0] at b0 b1 b2 hB0 hsz ⊢
  clear hW0
  refine wpIn_rangeFunc_ownH rfl (by omega) (gf := 135) (lb := #[.pointer (some ⟨W.heap.size + 1, 0, none⟩), .pointer (some ⟨W.heap.size + 1 + 1, 0, none⟩)]) rfl trivial (enters_of Tryz.func135 (by kernel_rfl) rfl)
    (placesI_stops 2 (by omega) (W.heap.size + 1) s hs W0 b1 b2) (fun h k => h.trans k) (Keeps2.putObj (by omega)) (Below.refl _ _) (fun _ => rfl)
    (fun pre W' => ((∃ v, Boxed W' W.heap.size 145 v ∧ W'.ownsRow W.heap.size 3 1 v (toldL s pre).length ((toldL s pre).map (Value.int .i64)) ∧ True) ∧ (Boxed W' (W.heap.size + 1) 9 (.string s) ∧ Boxed W' (W.heap.size + 1 + 1) 110 (.func (.func 86) #[] #[])) ∧ W.heap.size + 3 ≤ W'.heap.size) ∧ Below W.heap.size W W')
    (fun _ _ _ => False)
    (OwnFrom.and (OwnFrom.and (Own.from (holdsRow_own W.heap.size W.heap.size 145 3 1 (fun pre => (toldL s pre).length) (fun pre => (toldL s pre).map (Value.int .i64)) (fun _ _ => True)) _) (OwnFrom.and (OwnFrom.and (Own.from (boxed_own _ _ _) _) (Own.from (boxed_own _ _ _) _)) (fun s X Y row hs hg hr => Nat.le_trans hs hg.size))) (ownFrom_below (Nat.le_refl _) (by omega)))
    (fun _ _ _ _ _ hs _ _ => hs)
    ⟨⟨⟨_, b0, by simpa [toldL] using World.ownsRow_nil W0 W.heap.size 3 1, trivial⟩, ⟨b1, b2⟩, by omega⟩, hB0⟩
    (fun x a' W' => a' = { tmps := #[.string s, undef, .slice none 0 0, .pointer (some ⟨W.heap.size, 0, none⟩), .int .i64 (x : Int), .int .i64 (stateF s (x : Int)), .string s, .func (.func 135) #[] #[.pointer (some ⟨W.heap.size + 1, 0, none⟩), .pointer (some ⟨W.heap.size + 1 + 1, 0, none⟩)], .int .i64 (x : Int), .int .i64 (stateF s (x : Int)), undef, undef, undef, undef, undef, undef, undef], defers := [] })
    (fun x a' _ X Y row hs hg hr => hs)
    ?assign ?body ?done ?stop
  case assign =>
    rintro l pre x W' K ⟨⟨h1, h2, hs1⟩, hB1⟩ hK
    gi_wp2
    exact hK _ _ (KeepsFrom.refl _ _) (Keeps2.refl _ _) ⟨⟨h1, h2, hs1⟩, hB1⟩ rfl
  case body =>
    rintro l pre x a' W' hl ⟨r, hr⟩ ⟨⟨⟨v, hv, hown, _⟩, ⟨c1, c2⟩, hs1⟩, hB1⟩ rfl hlt
    have hlen := told_len s pre
    by_cases hx : x = 0
    · have HT := Lib.hid (told_miss s pre hx)
      have hq : ((x : Int) != 0) = false := by simp [hx]
      clear hl hlen
      gi_wp2
      refine ⟨KeepsFrom.refl _ _, Keeps2.refl _ _, ⟨⟨v, hv, ?_, trivial⟩, ⟨c1, c2⟩, hs1⟩, hB1⟩
      rw [HT.out]; exact hown
    · have HT := Lib.hid (told_hit s pre hx)
      have hq : ((x : Int) != 0) = true := by simp [hx]
      have d1 := hv.cell
      have f1 := hv.frozen
      have HX := Lib.hid hx
      clear hl hx
      gi_wp2_with (first
        | (refine ⟨trivial, ?_⟩; refine wpListIn_append_own _ rfl _ _ 145 rfl W.heap.size 3 i0 (.int .i64 0) 1 8 Tryz.underlying145 hi hz0 hz1 hz2 rfl (by decide) _ _ _ rfl (hown.alloc _) ⟨W'.heap.size, 0, none⟩ 1 1 [.int .i64 (stateF s (x : Int))] rfl rfl (cell_one_new _ _ _) ?c2 ?c3 ?c4 ?c5 ?_)
        | (refine wpListIn_append_own _ rfl _ _ 145 rfl W.heap.size 3 i0 (.int .i64 0) 1 8 Tryz.underlying145 hi hz0 hz1 hz2 rfl (by decide) _ _ _ rfl (hown.alloc _) ⟨W'.heap.size, 0, none⟩ 1 1 [.int .i64 (stateF s (x : Int))] rfl rfl (cell_one_new _ _ _) ?c2 ?c3 ?c4 ?c5 ?_)
        | fail)
      case c2 => intro u hu; simp at hu; subst hu; rfl
      case c3 => unfold maxLen; omega
      case c4 => omega
      case c5 => simp; omega
      · intro v' w1 hown' hgrow _
        obtain ⟨g, cap, rfl⟩ := ownsRow_succ hown'
        obtain ⟨hv1, hv2, ho2, hko, hbe⟩ := hv.appended (n₀ := W.heap.size) (by decide) hown (by omega) (Nat.le_refl _) hown' hgrow
        have e1 := hv1.cell
        have e2 := hv1.frozen
        have hkp : ∀ b, W.heap.size + 1 ≤ b → b < W.heap.size + 1 + 2 → (w1.setCell ⟨W.heap.size, 0, none⟩ (.slice (some ⟨g, 0, none⟩) ((toldL s pre).length + 1) cap)).heap[b]? = W'.heap[b]? := fun b hb1 hb2 => by
          refine (Below.heap_setCell _ _ _ _ (by simp; omega)).trans ((hgrow.block b (by simp; omega) ?_).trans (Below.heap_alloc _ _ _ (by omega)))
          rcases (show b = W.heap.size + 1 ∨ b = W.heap.size + 1 + 1 from by omega) with rfl | rfl
          · exact c1.not_row (by decide) hown
          · exact c2.not_row (by decide) hown
        clear hown' hgrow d1 f1
        gi_wp2
        refine ⟨hko.from _, hkp, ⟨⟨_, hv2, ?_, trivial⟩, ⟨(hkp _ (by omega) (by omega)).trans c1, (hkp _ (by omega) (by omega)).trans c2⟩, Nat.le_trans hs1 hbe.size⟩, hB1.trans hbe⟩
        rw [HT.out, List.length_append, List.map_append]; exact ho2
  case done =>
    rintro D ys W' hD rfl ⟨⟨⟨v, hv, hown, _⟩, ⟨c1, c2⟩, hs1⟩, hB1⟩ hK
    have d1 := hv.cell
    gi_wp2
    refine ⟨by simp, .inl ⟨_, _, rfl, run_takeDeferred hK, ?_⟩⟩
    have hown2 := ownsRow_putObj hown (.deferred none) hK rfl
    rw [told_all] at hown2
    obtain ⟨A, c, rfl, hA⟩ := ints_of_owns hown2
    refine ⟨.slice A (statesL s).length c, ?_, ⟨A, c, rfl, hA, hB1.trans (belowK_b (w := W) (Nat.le_refl _) W' D _ _ (by omega) hK rfl rfl)⟩⟩
    simp [results, Tryz.f88, go_sem]
  case stop =>
    rintro D c pre W' hD hpre h hK
    exact h.elim

end Go.Proofs.YthmpjoiifglbjaaGreat

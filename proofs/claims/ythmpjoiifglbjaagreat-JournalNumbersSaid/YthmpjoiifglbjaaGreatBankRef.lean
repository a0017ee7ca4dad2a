/- The document's own functions of layer 8: contracts only. -/
import Derived.Test.YthmpjoiifglbjaaGreatBankPlain
import Derived.Test.YthmpjoiifglbjaaGreatRecDecode
import Derived.Test.YthmpjoiifglbjaaGreatLayoutOwn
import Derived.Test.YthmpjoiifglbjaaGreatBox
import Derived.WalkKit
import Derived.ProofKit
import Derived.Lib.Hide
import Derived.WalkLawsBesides
import Derived.WalkSpells
import Derived.IntWalk
namespace Go.Proofs.YthmpjoiifglbjaaGreat
open Go.RowKit
set_option linter.unusedVariables false
set_option linter.unusedSimpArgs false

set_option maxRecDepth 100000 in
set_option maxHeartbeats 2000000 in
theorem ref08Slot (s : ByteArray) (i : Int) (W : World) (hs : s.size ≤ maxLen) (hi : -9223372036854775808 ≤ i ∧ i ≤ 9223372036854775807) :
    Calls Tryz.prog 82 #[.string s, .int .i64 i] W fun e W' => e = .returned (.string (slotT s i)) ∧ W' = W := by
  unfold maxLen at hs
  by_cases hn : slotsF s.size = 0
  · have HR := Lib.hid (slotT_out (s := s) (i := i) (by omega))
    have TL := Lib.hid (fun (V : World) => (show Calls Tryz.prog 53 #[.int .i64 (s.size : Int)] V fun e W' => e = .returned (.int .i64 0) ∧ W' = V from by have h := ref05Slots (s.size : Int) V; rwa [hn] at h))
    clear hn
    go_enter Tryz.func82, Tryz.ntmps82
    go_wp2_with fail
    refine (TL.out _).mono ?_
    rintro e w' ⟨rfl, hw⟩
    rw [hw]
    clear hw w'
    go_wp2
    go_ret
    exact ⟨by rw [HR.out]; rfl, rfl⟩
  · have hp := slots_size hn
    obtain ⟨n, hnn⟩ := Int.eq_ofNat_of_zero_le (by omega : 0 ≤ slotsF s.size)
    have TL := Lib.hid (fun (V : World) => (show Calls Tryz.prog 53 #[.int .i64 (s.size : Int)] V fun e W' => e = .returned (.int .i64 (n : Int)) ∧ W' = V from by have h := ref05Slots (s.size : Int) V; rwa [hnn] at h))
    have n1 : ((n : Int) == 0) = false := beq_eq_false_iff_ne.2 (by omega)
    by_cases h1 : i < 0
    · have HR := Lib.hid (slotT_out (s := s) (i := i) (by omega))
      clear hn hp hnn
      go_enter Tryz.func82, Tryz.ntmps82
      go_wp2_with fail
      refine (TL.out _).mono ?_
      rintro e w' ⟨rfl, hw⟩
      rw [hw]
      clear hw w'
      go_wp2
      go_ret
      exact ⟨by rw [HR.out]; rfl, rfl⟩
    · by_cases h2 : (n : Int) < i
      · have HR := Lib.hid (slotT_out (s := s) (i := i) (by omega))
        have h3 : i > (n : Int) := h2
        clear hn hp hnn
        go_enter Tryz.func82, Tryz.ntmps82
        go_wp2_with fail
        refine (TL.out _).mono ?_
        rintro e w' ⟨rfl, hw⟩
        rw [hw]
        clear hw w'
        go_wp2
        go_ret
        exact ⟨by rw [HR.out]; rfl, rfl⟩
      · obtain ⟨k, rfl⟩ := Int.eq_ofNat_of_zero_le (by omega : 0 ≤ i)
        have HR := Lib.hid (slotT_in (s := s) (k := k) hn (by omega))
        have h3 : ¬ (k : Int) > (n : Int) := h2
        have w1 : IntKind.i64.wrap (24 * (k : Int)) = 24 * (k : Int) := IntWalk.i64_in _ (by omega)
        have w2 : IntKind.i64.wrap (24 * (k : Int) + 24) = 24 * (k : Int) + 24 := IntWalk.i64_in _ (by omega)
        have t1 : (24 * (k : Int)).toNat = 24 * k := by omega
        have t2 : (24 * (k : Int) + 24).toNat = 24 * k + 24 := by omega
        have v0 : (0 : Int) ≤ 24 * (k : Int) := by omega
        have v1 : (0 : Int) ≤ 24 * (k : Int) + 24 := by omega
        have v2 : 24 * (k : Int) ≤ 24 * (k : Int) + 24 := by omega
        have v3 : 24 * (k : Int) + 24 ≤ (s.size : Int) := by omega
        have v4 : ¬ (s.size : Int) < 24 * (k : Int) + 24 := by omega
        clear hn hp hnn
        go_enter Tryz.func82, Tryz.ntmps82
        go_wp2_with fail
        refine (TL.out _).mono ?_
        rintro e w' ⟨rfl, hw⟩
        rw [hw]
        clear hw w'
        go_wp2
        go_ret
        exact ⟨by rw [HR.out]; rfl, rfl⟩

set_option maxRecDepth 100000 in
set_option maxHeartbeats 2000000 in
theorem ref08Record (s : ByteArray) (i : Int) (W : World) (hs : s.size ≤ maxLen) (hi : -9223372036854775808 ≤ i ∧ i ≤ 9223372036854775807) :
    Calls Tryz.prog 52 #[.string s, .int .i64 i] W fun e W' => e = .returned (.tuple #[.agg #[.int .i64 (decR (bl (slotT s i))).kind, .int .u64 ((decR (bl (slotT s i))).seq : Int), .int .u64 ((decR (bl (slotT s i))).data : Int)], .int .i64 (decE (bl (slotT s i)))]) ∧ Below W.heap.size W W' := by
  have T1 := Lib.hid (fun (V : World) => ref08Slot s i V hs hi)
  have T2 := Lib.hid (fun (V : World) => ref07Decode (slotT s i) V (by have := slotT_small s i; omega))
  generalize decE (bl (slotT s i)) = E at *
  generalize decR (bl (slotT s i)) = r at *
  generalize slotT s i = S at *
  have hB : Below W.heap.size W (W.alloc (.cells #[.int .i64 0, .int .u64 0, .int .u64 0] 87)) := ((Below.refl _ _).alloc (Nat.le_refl _) _)
  have xr := (Box.new 87 W [.int .i64 0, .int .u64 0, .int .u64 0])
  go_enter Tryz.func52, Tryz.ntmps52
  go_wp2_with fail
  refine (T1.out _).mono ?_
  rintro e w' ⟨rfl, hw⟩
  rw [hw]
  clear hw w'
  go_wp2_with fail
  refine (T2.out _).mono ?_
  rintro e V1 ⟨rfl, hk⟩
  replace hB := below_seq hB hk
  replace xr := xr.seq hk
  clear hk
  obtain ⟨xr0, xrz0, xr1, xrz1, xr2, xrz2⟩ := xr.f3
  go_wp2
  clear xr0 xrz0 xr1 xrz1 xr2 xrz2
  replace xr : Box 87 (((V1.setCell ⟨W.heap.size, 0, none⟩ (.int .i64 r.kind)).setCell ⟨W.heap.size, 1, none⟩ (.int .u64 (r.seq : Int))).setCell ⟨W.heap.size, 2, none⟩ (.int .u64 (r.data : Int))) (W.heap.size) [.int .i64 r.kind, .int .u64 (r.seq : Int), .int .u64 (r.data : Int)] := (((xr.set 0 (.int .i64 r.kind)).set 1 (.int .u64 (r.seq : Int))).set 2 (.int .u64 (r.data : Int)))
  replace hB : Below W.heap.size W (((V1.setCell ⟨W.heap.size, 0, none⟩ (.int .i64 r.kind)).setCell ⟨W.heap.size, 1, none⟩ (.int .u64 (r.seq : Int))).setCell ⟨W.heap.size, 2, none⟩ (.int .u64 (r.data : Int))) := (((hB.setCell (Nat.le_refl _) _).setCell (Nat.le_refl _) _).setCell (Nat.le_refl _) _)
  generalize (((V1.setCell ⟨W.heap.size, 0, none⟩ (.int .i64 r.kind)).setCell ⟨W.heap.size, 1, none⟩ (.int .u64 (r.seq : Int))).setCell ⟨W.heap.size, 2, none⟩ (.int .u64 (r.data : Int))) = V2 at *
  obtain ⟨xr0, xrz0, xr1, xrz1, xr2, xrz2⟩ := xr.f3
  exact bodyPost_ret (v := .tuple #[.agg #[.int .i64 r.kind, .int .u64 (r.seq : Int), .int .u64 (r.data : Int)], .int .i64 E]) (by simp [results, Tryz.results52, go_sem, xr0, xr1, xr2]) rfl ⟨rfl, hB⟩

set_option maxRecDepth 100000 in
set_option maxHeartbeats 2000000 in
theorem ref08State (s : ByteArray) (i : Int) (W : World) (hs : s.size ≤ maxLen) (hi : -9223372036854775808 ≤ i ∧ i ≤ 9223372036854775807) :
    Calls Tryz.prog 51 #[.string s, .int .i64 i] W fun e W' => e = .returned (.int .i64 (stateF s i)) ∧ Below W.heap.size W W' := by
  have T := Lib.hid (fun (V : World) => ref08Record s i V hs hi)
  have HS := (show stateF s i = if decE (bl (slotT s i)) = 5 then 0 else if decE (bl (slotT s i)) = 0 ∧ ((decR (bl (slotT s i))).kind = 1 ↔ i = 0) then 2 else 1 from rfl)
  rw [HS]
  clear HS
  generalize decE (bl (slotT s i)) = E at *
  generalize decR (bl (slotT s i)) = r at *
  by_cases h5 : E = 5
  · subst h5
    rw [show (if (5 : Int) = 5 then (0 : Int) else if (5 : Int) = 0 ∧ (r.kind = 1 ↔ (i : Int) = 0) then 2 else 1) = 0 from if_pos rfl]
    have hB : Below W.heap.size W W := Below.refl _ _
    go_enter Tryz.func51, Tryz.ntmps51
    go_wp2_with fail
    refine (T.out _).mono ?_
    rintro e V1 ⟨rfl, hk⟩
    replace hB := below_seq hB hk
    clear hk
    have xr := Box.new 87 V1 [.int .i64 r.kind, .int .u64 (r.seq : Int), .int .u64 (r.data : Int)]
    have le_xr : W.heap.size ≤ V1.heap.size := hB.size
    replace hB := hB.alloc hB.size (.cells #[.int .i64 r.kind, .int .u64 (r.seq : Int), .int .u64 (r.data : Int)] 87)
    obtain ⟨xr0, xrz0, xr1, xrz1, xr2, xrz2⟩ := xr.f3
    go_wp2
    go_ret
    exact ⟨rfl, hB⟩
  · have n5 : (E == 5) = false := beq_eq_false_iff_ne.2 h5
    by_cases h0 : E = 0
    · subst h0
      by_cases hk : r.kind = 1
      · by_cases hz : i = 0
        · subst hz
          rw [show (if (0 : Int) = 5 then (0 : Int) else if (0 : Int) = 0 ∧ (r.kind = 1 ↔ (0 : Int) = 0) then 2 else 1) = 2 from by simp [hk]]
          obtain ⟨kk, ss, dd⟩ := r
          dsimp only at *
          subst hk
          have hB : Below W.heap.size W W := Below.refl _ _
          go_enter Tryz.func51, Tryz.ntmps51
          go_wp2_with fail
          refine (T.out _).mono ?_
          rintro e V1 ⟨rfl, hk⟩
          replace hB := below_seq hB hk
          clear hk
          have xr := Box.new 87 V1 [.int .i64 1, .int .u64 (ss : Int), .int .u64 (dd : Int)]
          have le_xr : W.heap.size ≤ V1.heap.size := hB.size
          replace hB := hB.alloc hB.size (.cells #[.int .i64 1, .int .u64 (ss : Int), .int .u64 (dd : Int)] 87)
          obtain ⟨xr0, xrz0, xr1, xrz1, xr2, xrz2⟩ := xr.f3
          go_wp2
          go_ret
          exact ⟨rfl, hB⟩
        · skip
          rw [show (if (0 : Int) = 5 then (0 : Int) else if (0 : Int) = 0 ∧ (r.kind = 1 ↔ (i : Int) = 0) then 2 else 1) = 1 from by simp [hk, hz]]
          obtain ⟨kk, ss, dd⟩ := r
          dsimp only at *
          subst hk
          have n2 : (i == 0) = false := beq_eq_false_iff_ne.2 hz
          clear hz
          have hB : Below W.heap.size W W := Below.refl _ _
          go_enter Tryz.func51, Tryz.ntmps51
          go_wp2_with fail
          refine (T.out _).mono ?_
          rintro e V1 ⟨rfl, hk⟩
          replace hB := below_seq hB hk
          clear hk
          have xr := Box.new 87 V1 [.int .i64 1, .int .u64 (ss : Int), .int .u64 (dd : Int)]
          have le_xr : W.heap.size ≤ V1.heap.size := hB.size
          replace hB := hB.alloc hB.size (.cells #[.int .i64 1, .int .u64 (ss : Int), .int .u64 (dd : Int)] 87)
          obtain ⟨xr0, xrz0, xr1, xrz1, xr2, xrz2⟩ := xr.f3
          go_wp2
          go_ret
          exact ⟨rfl, hB⟩
      · by_cases hz : i = 0
        · subst hz
          rw [show (if (0 : Int) = 5 then (0 : Int) else if (0 : Int) = 0 ∧ (r.kind = 1 ↔ (0 : Int) = 0) then 2 else 1) = 1 from by simp [hk]]
          have n1 : (r.kind == 1) = false := beq_eq_false_iff_ne.2 hk
          clear hk
          have hB : Below W.heap.size W W := Below.refl _ _
          go_enter Tryz.func51, Tryz.ntmps51
          go_wp2_with fail
          refine (T.out _).mono ?_
          rintro e V1 ⟨rfl, hk⟩
          replace hB := below_seq hB hk
          clear hk
          have xr := Box.new 87 V1 [.int .i64 r.kind, .int .u64 (r.seq : Int), .int .u64 (r.data : Int)]
          have le_xr : W.heap.size ≤ V1.heap.size := hB.size
          replace hB := hB.alloc hB.size (.cells #[.int .i64 r.kind, .int .u64 (r.seq : Int), .int .u64 (r.data : Int)] 87)
          obtain ⟨xr0, xrz0, xr1, xrz1, xr2, xrz2⟩ := xr.f3
          go_wp2
          go_ret
          exact ⟨rfl, hB⟩
        · skip
          rw [show (if (0 : Int) = 5 then (0 : Int) else if (0 : Int) = 0 ∧ (r.kind = 1 ↔ (i : Int) = 0) then 2 else 1) = 2 from by simp [hk, hz]]
          have n1 : (r.kind == 1) = false := beq_eq_false_iff_ne.2 hk
          have n2 : (i == 0) = false := beq_eq_false_iff_ne.2 hz
          clear hk hz
          have hB : Below W.heap.size W W := Below.refl _ _
          go_enter Tryz.func51, Tryz.ntmps51
          go_wp2_with fail
          refine (T.out _).mono ?_
          rintro e V1 ⟨rfl, hk⟩
          replace hB := below_seq hB hk
          clear hk
          have xr := Box.new 87 V1 [.int .i64 r.kind, .int .u64 (r.seq : Int), .int .u64 (r.data : Int)]
          have le_xr : W.heap.size ≤ V1.heap.size := hB.size
          replace hB := hB.alloc hB.size (.cells #[.int .i64 r.kind, .int .u64 (r.seq : Int), .int .u64 (r.data : Int)] 87)
          obtain ⟨xr0, xrz0, xr1, xrz1, xr2, xrz2⟩ := xr.f3
          go_wp2
          go_ret
          exact ⟨rfl, hB⟩
    · skip
      rw [show (if (E : Int) = 5 then (0 : Int) else if (E : Int) = 0 ∧ (r.kind = 1 ↔ (i : Int) = 0) then 2 else 1) = 1 from by rw [if_neg h5, if_neg (fun h => h0 h.1)]]
      have n0 : (E == 0) = false := beq_eq_false_iff_ne.2 h0
      clear h0 h5
      have hB : Below W.heap.size W W := Below.refl _ _
      go_enter Tryz.func51, Tryz.ntmps51
      go_wp2_with fail
      refine (T.out _).mono ?_
      rintro e V1 ⟨rfl, hk⟩
      replace hB := below_seq hB hk
      clear hk
      have xr := Box.new 87 V1 [.int .i64 r.kind, .int .u64 (r.seq : Int), .int .u64 (r.data : Int)]
      have le_xr : W.heap.size ≤ V1.heap.size := hB.size
      replace hB := hB.alloc hB.size (.cells #[.int .i64 r.kind, .int .u64 (r.seq : Int), .int .u64 (r.data : Int)] 87)
      obtain ⟨xr0, xrz0, xr1, xrz1, xr2, xrz2⟩ := xr.f3
      go_wp2
      go_ret
      exact ⟨rfl, hB⟩

set_option maxRecDepth 100000 in
set_option maxHeartbeats 2000000 in
theorem ref08Generation (s : ByteArray) (W : World) (hs : s.size ≤ maxLen) :
    Calls Tryz.prog 32 #[.string s] W fun e W' => e = .returned (.tuple #[.int .u64 (genN s : Int), .int .i64 (genE s)]) ∧ Below W.heap.size W W' := by
  have T1 := Lib.hid (fun (V : World) => ref08State s 0 V hs ⟨by decide, by decide⟩)
  have T2 := Lib.hid (fun (V : World) => ref08Record s 0 V hs ⟨by decide, by decide⟩)
  unfold genN genE
  generalize stateF s 0 = z at *
  generalize decE (bl (slotT s 0)) = E at *
  generalize decR (bl (slotT s 0)) = r at *
  by_cases hz : z = 2
  · subst hz
    rw [if_pos rfl, if_pos rfl]
    have hB : Below W.heap.size W W := Below.refl _ _
    go_enter Tryz.func32, Tryz.ntmps32
    go_wp2_with fail
    refine (T1.out _).mono ?_
    rintro e V1 ⟨rfl, hk⟩
    replace hB := below_seq hB hk
    clear hk
    go_wp2_with fail
    refine (T2.out _).mono ?_
    rintro e V2 ⟨rfl, hk⟩
    replace hB := below_seq hB hk
    clear hk
    have xr := Box.new 87 V2 [.int .i64 r.kind, .int .u64 (r.seq : Int), .int .u64 (r.data : Int)]
    have le_xr : W.heap.size ≤ V2.heap.size := hB.size
    replace hB := hB.alloc hB.size (.cells #[.int .i64 r.kind, .int .u64 (r.seq : Int), .int .u64 (r.data : Int)] 87)
    obtain ⟨xr0, xrz0, xr1, xrz1, xr2, xrz2⟩ := xr.f3
    go_wp2
    go_ret2
    exact ⟨rfl, hB⟩
  · rw [if_neg hz, if_neg hz]
    have n1 : (z != 2) = true := bne_iff_ne.2 hz
    clear hz
    have hB : Below W.heap.size W W := Below.refl _ _
    go_enter Tryz.func32, Tryz.ntmps32
    go_wp2_with fail
    refine (T1.out _).mono ?_
    rintro e V1 ⟨rfl, hk⟩
    replace hB := below_seq hB hk
    clear hk
    go_wp2
    go_ret2
    exact ⟨rfl, hB⟩
end Go.Proofs.YthmpjoiifglbjaaGreat

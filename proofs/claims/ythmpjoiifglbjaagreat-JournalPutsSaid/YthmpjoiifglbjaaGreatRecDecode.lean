/- The document's own Decode and Good of layer 7: contracts only. -/
import Derived.Test.YthmpjoiifglbjaaGreatRecRef
import Derived.Test.YthmpjoiifglbjaaGreatFlashRef
import Derived.WalkKit
import Derived.ProofKit
import Derived.Lib.Hide
import Derived.Deep.RegionHeld3
import Derived.WalkLawsBesides
import Derived.WalkSpells
import Derived.IntWalk
namespace Go.Proofs.YthmpjoiifglbjaaGreat
open Go.RowKit
set_option linter.unusedVariables false
set_option linter.unusedSimpArgs false

theorem sumOk_iff (s : ByteArray) (h : s.size = 24) : sumOk (bl s) ↔ (s.extract 18 22) = (bs (low4 (sumN ((bl s).take 18)))) := by
  have e18 : bl (s.extract 18 22) = ((bl s).drop 18).take 4 := by rw [bl_extract]; simp [List.drop_take]
  exact ⟨fun h => bl_inj (by rw [e18, bl_bs]; exact h), fun h => by have := congrArg bl h; rw [e18, bl_bs] at this; exact this⟩
theorem mark_iff (s : ByteArray) (h : s.size = 24) : (bl s).drop 22 = markL ↔ s.extract 22 24 = bs markL := by
  have e22 : bl (s.extract 22 24) = (bl s).drop 22 := by rw [bl_extract, List.take_of_length_le (by rw [bl_length]; omega)]
  exact ⟨fun h => bl_inj (by rw [e22, bl_bs]; exact h), fun h => by have := congrArg bl h; rw [e22, bl_bs] at this; exact this⟩
theorem get_part (s : ByteArray) (a b : Nat) (h : b - a = 8) : getB (s.extract a b) = getN (((bl s).drop a).take 8) := by
  unfold getB; rw [bl_extract, List.drop_take, h]
  exact Nat.mod_eq_of_lt (Nat.lt_of_lt_of_le (getN_lt _) (Nat.pow_le_pow_right (by decide) (show _ ≤ 8 from by simp; omega)))
theorem beq_texts {a b : ByteArray} (h : a = b) : (a.toList == b.toList) = true := by rw [h]; exact beq_self_eq_true _
theorem bne_texts {a b : ByteArray} (h : a ≠ b) : (a.toList == b.toList) = false := by
  rw [beq_eq_false_iff_ne]; intro k; rw [ByteArray.toList_eq, ByteArray.toList_eq] at k; exact h (bl_inj k)

set_option maxRecDepth 100000 in
set_option maxHeartbeats 8000000 in
theorem ref07Decode (s : ByteArray) (W : World) (hs : s.size ≤ 140737488351232) : Calls Tryz.prog 81 #[.string s] W fun e W' =>
    e = .returned (.tuple #[.agg #[.int .i64 (decR (bl s)).kind, .int .u64 ((decR (bl s)).seq : Int), .int .u64 ((decR (bl s)).data : Int)], .int .i64 (decE (bl s))]) ∧ Below W.heap.size W W' := by
  have hlen := bl_length s
  by_cases h1 : s.size = 24
  · rw [h1] at hlen
    have L1 := Lib.hid h1
    by_cases hb : blankB s = true
    · have hb' : ((bl s).all fun b => b == 255) = true := hb
      have hE : decE (bl s) = 5 := by unfold decE; rw [if_neg (by omega), if_pos hb']
      have TB := Lib.hid (fun (V : World) => (show Calls Tryz.prog 108 #[.string s] V fun e W' => e = .returned (.bool true) ∧ W' = V from by have h := refBlank3 s V (by omega); rwa [hb] at h))
      have b1 : ((s.size : Int) != 24) = false := by rw [h1]; rfl
      clear h1 hb hb' hlen
      have HE := Lib.hid hE
      have HR := Lib.hid (show decR (bl s) = ⟨0, 0, 0⟩ from if_neg (by rw [hE]; decide))
      clear hE
      have hB : Below W.heap.size W (W.alloc (.cells #[.int .i64 0, .int .u64 0, .int .u64 0] 87)) := ((Below.refl _ _).alloc (Nat.le_refl _) _)
      have xz := (Box.new 87 W [.int .i64 0, .int .u64 0, .int .u64 0])
      go_enter Tryz.func81, Tryz.ntmps81
      go_wp2_with fail
      refine (TB.out _).mono ?_
      rintro e w' ⟨rfl, hw⟩
      rw [hw]
      clear hw w'
      go_wp2
      exact bodyPost_ret (v := .tuple #[.agg #[.int .i64 0, .int .u64 0, .int .u64 0], .int .i64 5]) (by simp [results, Tryz.results81, go_sem]) rfl ⟨by rw [HR.out, HE.out]; rfl, (Below.refl _ _).alloc (Nat.le_refl _) _⟩
    · replace hb : blankB s = false := by simpa using hb
      have hnb : ¬ ((bl s).all fun b => b == 255) = true := by have : blankB s = ((bl s).all fun b => b == 255) := rfl; rw [← this, hb]; decide
      have TB := Lib.hid (fun (V : World) => (show Calls Tryz.prog 108 #[.string s] V fun e W' => e = .returned (.bool false) ∧ W' = V from by have h := refBlank3 s V (by omega); rwa [hb] at h))
      have b1 : ((s.size : Int) != 24) = false := by rw [h1]; rfl
      have g0 := gd_in s 0 0 (by omega)
      have g1 := gd_in s 1 0 (by omega)
      have l0 : 0 < s.size := by omega
      have l1 : 1 < s.size := by omega
      have l18 : 18 ≤ s.size := by omega
      have l22 : 22 ≤ s.size := by omega
      have m0 : (0 : Int) < (s.size : Int) := by omega
      have m1 : (1 : Int) < (s.size : Int) := by omega
      have m18 : (18 : Int) ≤ (s.size : Int) := by omega
      have m22 : (22 : Int) ≤ (s.size : Int) := by omega
      have m10 : (10 : Int) ≤ (s.size : Int) := by omega
      by_cases h2 : s[0] = 165
      · have b2 : ((s[0].toNat : Int) != 165) = false := by rw [h2]; rfl
        have TS := Lib.hid (fun (V : World) => (show Calls Tryz.prog 98 #[.string (s.extract 0 18)] V fun e W' => e = .returned (.int .u32 ((sumN ((bl s).take 18) : Nat) : Int)) ∧ W' = V from by
          have h := refSum (s.extract 0 18) V (by simp; unfold maxLen; omega)
          rwa [show sumT (s.extract 0 18) = ((sumN ((bl s).take 18) : Nat) : Int) from by unfold sumT sumN; rw [bl_extract, List.drop_zero]] at h))
        by_cases h3 : sumOk (bl s)
        · have b3 := beq_texts ((sumOk_iff s h1).1 h3)
          by_cases h4 : s[1].toNat < 1 ∨ 3 < s[1].toNat
          · have hE : decE (bl s) = 8 := by unfold decE; rw [if_neg (by omega), if_neg hnb, if_neg (by rw [g0]; simpa using h2), if_neg (by simpa using h3), if_pos (by rw [g1]; exact h4)]
            clear h2 h3 hb hnb g0 g1 h1 hlen
            rcases h4 with h4 | h4
            · have n1 : (s[1].toNat : Int) < 1 := by omega
              have n2 : decide ((s[1].toNat : Int) < 1) = true := by simpa using n1
              clear h4
              have HE := Lib.hid hE
              have HR := Lib.hid (show decR (bl s) = ⟨0, 0, 0⟩ from if_neg (by rw [hE]; decide))
              clear hE
              have hB : Below W.heap.size W (W.alloc (.cells #[.int .i64 0, .int .u64 0, .int .u64 0] 87)) := ((Below.refl _ _).alloc (Nat.le_refl _) _)
              have xz := (Box.new 87 W [.int .i64 0, .int .u64 0, .int .u64 0])
              go_enter Tryz.func81, Tryz.ntmps81
              go_wp2_with fail
              refine (TB.out _).mono ?_
              rintro e w' ⟨rfl, hw⟩
              rw [hw]
              clear hw w'
              go_wp2_with fail
              generalize (W.alloc (.cells #[.int .i64 0, .int .u64 0, .int .u64 0] 87)) = V1 at *
              replace hB := hB.drew
              replace xz := xz.drew
              refine wp_region_held_drew (S := fun w' => True) (by kernel_rfl) ?_ (fun hHeld => ?_)
              · exact trivial
              generalize V1.drew = V2 at *
              refine wpAnyH_take (i := 0) (v := ?_) rfl (by kernel_rfl) (by kernel_rfl) (by kernel_rfl) (fun _ _ _ h => h) (Or.inl ⟨by rfl, ?_⟩) (by assumption) ?_
              rotate_left
              · intro w hSw; (try dsimp only at hSw); go_simp; try with_reducible rfl
              try simp only [Act.put, List.getElem_toArray, List.getElem_cons_zero, List.getElem_cons_succ, List.setIfInBounds_toArray, List.set_cons_zero, List.set_cons_succ]
              refine wpAnyH_take (i := 1) (v := ?_) rfl (by kernel_rfl) (by kernel_rfl) (by kernel_rfl) (fun _ _ _ h => h) (Or.inl ⟨by rfl, ?_⟩) (by assumption) ?_
              rotate_left
              · intro w hSw; (try dsimp only at hSw); go_simp; try with_reducible rfl
              try simp only [Act.put, List.getElem_toArray, List.getElem_cons_zero, List.getElem_cons_succ, List.setIfInBounds_toArray, List.set_cons_zero, List.set_cons_succ]
              refine wpAnyH_take (i := 2) (v := ?_) rfl (by kernel_rfl) (by kernel_rfl) (by kernel_rfl) (fun _ _ _ h => h) (Or.inl ⟨by rfl, ?_⟩) (by assumption) ?_
              rotate_left
              · intro w hSw; (try dsimp only at hSw); go_simp; try with_reducible rfl
              try simp only [Act.put, List.getElem_toArray, List.getElem_cons_zero, List.getElem_cons_succ, List.setIfInBounds_toArray, List.set_cons_zero, List.set_cons_succ]
              refine wpAnyH_take (i := 3) (v := ?_) rfl (by kernel_rfl) (by kernel_rfl) (by kernel_rfl) (fun _ _ _ h => h) (Or.inl ⟨by rfl, ?_⟩) (by assumption) ?_
              rotate_left
              · intro w hSw; (try dsimp only at hSw); go_simp; try with_reducible rfl
              try simp only [Act.put, List.getElem_toArray, List.getElem_cons_zero, List.getElem_cons_succ, List.setIfInBounds_toArray, List.set_cons_zero, List.set_cons_succ]
              refine wpAnyH_ready (rs := [4]) (by kernel_rfl) (by simp) ?_
              refine AllReadyH.cons rfl (fun K hK => ?_) AllReadyH.nil
              have xz0 := xz.cell 0 rfl
              have xzz0 := xz.frozen 0
              have xz1 := xz.cell 1 rfl
              have xzz1 := xz.frozen 1
              have xz2 := xz.cell 2 rfl
              have xzz2 := xz.frozen 2
              go_simp
              refine (TS.out _).mono ?_
              rintro e w' ⟨rfl, hw⟩
              rw [hw]
              clear hw w'
              try go_wp2_with fail
              clear xz0 xzz0 xz1 xzz1 xz2 xzz2
              clear hHeld
              refine hK.out _ _ ?_ (fun hHeld => ?_)
              · exact trivial
              clear hK K
              try simp only [Act.put, List.getElem_toArray, List.getElem_cons_zero, List.getElem_cons_succ, List.setIfInBounds_toArray, List.set_cons_zero, List.set_cons_succ]
              refine wpAnyH_ready (rs := [5]) (by kernel_rfl) (by simp) ?_
              refine AllReadyH.cons rfl (fun K hK => ?_) AllReadyH.nil
              have xz0 := xz.cell 0 rfl
              have xzz0 := xz.frozen 0
              have xz1 := xz.cell 1 rfl
              have xzz1 := xz.frozen 1
              have xz2 := xz.cell 2 rfl
              have xzz2 := xz.frozen 2
              go_simp
              refine (ref07low _ (sumN_lt _) _).mono ?_
              rintro e V3 ⟨rfl, hk⟩
              clear xz0 xzz0 xz1 xzz1 xz2 xzz2
              replace hB := below_seq hB hk
              replace xz := xz.seq hk
              clear hk
              have xz0 := xz.cell 0 rfl
              have xzz0 := xz.frozen 0
              have xz1 := xz.cell 1 rfl
              have xzz1 := xz.frozen 1
              have xz2 := xz.cell 2 rfl
              have xzz2 := xz.frozen 2
              try go_wp2_with fail
              clear xz0 xzz0 xz1 xzz1 xz2 xzz2
              clear hHeld
              refine hK.out _ _ ?_ (fun hHeld => ?_)
              · exact trivial
              clear hK K
              try simp only [Act.put, List.getElem_toArray, List.getElem_cons_zero, List.getElem_cons_succ, List.setIfInBounds_toArray, List.set_cons_zero, List.set_cons_succ]
              refine wpAnyH_take (i := 6) (v := ?_) rfl (by kernel_rfl) (by kernel_rfl) (by kernel_rfl) (fun _ _ _ h => h) (Or.inl ⟨by rfl, ?_⟩) (by assumption) ?_
              rotate_left
              · intro w hSw; (try dsimp only at hSw); go_simp; try with_reducible rfl
              try simp only [Act.put, List.getElem_toArray, List.getElem_cons_zero, List.getElem_cons_succ, List.setIfInBounds_toArray, List.set_cons_zero, List.set_cons_succ]
              refine wpAnyH_take (i := 7) (v := ?_) rfl (by kernel_rfl) (by kernel_rfl) (by kernel_rfl) (fun _ _ _ h => h) (Or.inl ⟨by rfl, ?_⟩) (by assumption) ?_
              rotate_left
              · intro w hSw; (try dsimp only at hSw); go_simp; try with_reducible rfl
              try simp only [Act.put, List.getElem_toArray, List.getElem_cons_zero, List.getElem_cons_succ, List.setIfInBounds_toArray, List.set_cons_zero, List.set_cons_succ]
              refine wpAnyH_done (by kernel_rfl) ?_ _
              clear hHeld
              have xz0 := xz.cell 0 rfl
              have xzz0 := xz.frozen 0
              have xz1 := xz.cell 1 rfl
              have xzz1 := xz.frozen 1
              have xz2 := xz.cell 2 rfl
              have xzz2 := xz.frozen 2
              go_wp2
              clear xz0 xzz0 xz1 xzz1 xz2 xzz2
              replace xz : Box 87 (((V3.setCell ⟨W.heap.size, 0, none⟩ (.int .i64 0)).setCell ⟨W.heap.size, 1, none⟩ (.int .u64 0)).setCell ⟨W.heap.size, 2, none⟩ (.int .u64 0)) (W.heap.size) [.int .i64 0, .int .u64 0, .int .u64 0] := (((xz.set 0 (.int .i64 0)).set 1 (.int .u64 0)).set 2 (.int .u64 0))
              replace hB : Below W.heap.size W (((V3.setCell ⟨W.heap.size, 0, none⟩ (.int .i64 0)).setCell ⟨W.heap.size, 1, none⟩ (.int .u64 0)).setCell ⟨W.heap.size, 2, none⟩ (.int .u64 0)) := (((hB.setCell (Nat.le_refl _) _).setCell (Nat.le_refl _) _).setCell (Nat.le_refl _) _)
              generalize (((V3.setCell ⟨W.heap.size, 0, none⟩ (.int .i64 0)).setCell ⟨W.heap.size, 1, none⟩ (.int .u64 0)).setCell ⟨W.heap.size, 2, none⟩ (.int .u64 0)) = V4 at *
              have xz0 := xz.cell 0 rfl
              have xzz0 := xz.frozen 0
              have xz1 := xz.cell 1 rfl
              have xzz1 := xz.frozen 1
              have xz2 := xz.cell 2 rfl
              have xzz2 := xz.frozen 2
              exact bodyPost_ret (v := .tuple #[.agg #[.int .i64 0, .int .u64 0, .int .u64 0], .int .i64 8]) (by simp [results, Tryz.results81, go_sem, xz0, xz1, xz2]) rfl ⟨by rw [HR.out, HE.out]; rfl, hB⟩
            · have n0 : ¬ (s[1].toNat : Int) < 1 := by omega
              have n2 : decide ((s[1].toNat : Int) < 1) = false := by simpa using n0
              have n1 : (s[1].toNat : Int) > 3 := by omega
              have n3 : decide (3 < (s[1].toNat : Int)) = true := by simpa using n1
              clear h4
              have HE := Lib.hid hE
              have HR := Lib.hid (show decR (bl s) = ⟨0, 0, 0⟩ from if_neg (by rw [hE]; decide))
              clear hE
              have hB : Below W.heap.size W (W.alloc (.cells #[.int .i64 0, .int .u64 0, .int .u64 0] 87)) := ((Below.refl _ _).alloc (Nat.le_refl _) _)
              have xz := (Box.new 87 W [.int .i64 0, .int .u64 0, .int .u64 0])
              go_enter Tryz.func81, Tryz.ntmps81
              go_wp2_with fail
              refine (TB.out _).mono ?_
              rintro e w' ⟨rfl, hw⟩
              rw [hw]
              clear hw w'
              go_wp2_with fail
              generalize (W.alloc (.cells #[.int .i64 0, .int .u64 0, .int .u64 0] 87)) = V1 at *
              replace hB := hB.drew
              replace xz := xz.drew
              refine wp_region_held_drew (S := fun w' => True) (by kernel_rfl) ?_ (fun hHeld => ?_)
              · exact trivial
              generalize V1.drew = V2 at *
              refine wpAnyH_take (i := 0) (v := ?_) rfl (by kernel_rfl) (by kernel_rfl) (by kernel_rfl) (fun _ _ _ h => h) (Or.inl ⟨by rfl, ?_⟩) (by assumption) ?_
              rotate_left
              · intro w hSw; (try dsimp only at hSw); go_simp; try with_reducible rfl
              try simp only [Act.put, List.getElem_toArray, List.getElem_cons_zero, List.getElem_cons_succ, List.setIfInBounds_toArray, List.set_cons_zero, List.set_cons_succ]
              refine wpAnyH_take (i := 1) (v := ?_) rfl (by kernel_rfl) (by kernel_rfl) (by kernel_rfl) (fun _ _ _ h => h) (Or.inl ⟨by rfl, ?_⟩) (by assumption) ?_
              rotate_left
              · intro w hSw; (try dsimp only at hSw); go_simp; try with_reducible rfl
              try simp only [Act.put, List.getElem_toArray, List.getElem_cons_zero, List.getElem_cons_succ, List.setIfInBounds_toArray, List.set_cons_zero, List.set_cons_succ]
              refine wpAnyH_take (i := 2) (v := ?_) rfl (by kernel_rfl) (by kernel_rfl) (by kernel_rfl) (fun _ _ _ h => h) (Or.inl ⟨by rfl, ?_⟩) (by assumption) ?_
              rotate_left
              · intro w hSw; (try dsimp only at hSw); go_simp; try with_reducible rfl
              try simp only [Act.put, List.getElem_toArray, List.getElem_cons_zero, List.getElem_cons_succ, List.setIfInBounds_toArray, List.set_cons_zero, List.set_cons_succ]
              refine wpAnyH_take (i := 3) (v := ?_) rfl (by kernel_rfl) (by kernel_rfl) (by kernel_rfl) (fun _ _ _ h => h) (Or.inl ⟨by rfl, ?_⟩) (by assumption) ?_
              rotate_left
              · intro w hSw; (try dsimp only at hSw); go_simp; try with_reducible rfl
              try simp only [Act.put, List.getElem_toArray, List.getElem_cons_zero, List.getElem_cons_succ, List.setIfInBounds_toArray, List.set_cons_zero, List.set_cons_succ]
              refine wpAnyH_ready (rs := [4]) (by kernel_rfl) (by simp) ?_
              refine AllReadyH.cons rfl (fun K hK => ?_) AllReadyH.nil
              have xz0 := xz.cell 0 rfl
              have xzz0 := xz.frozen 0
              have xz1 := xz.cell 1 rfl
              have xzz1 := xz.frozen 1
              have xz2 := xz.cell 2 rfl
              have xzz2 := xz.frozen 2
              go_simp
              refine (TS.out _).mono ?_
              rintro e w' ⟨rfl, hw⟩
              rw [hw]
              clear hw w'
              try go_wp2_with fail
              clear xz0 xzz0 xz1 xzz1 xz2 xzz2
              clear hHeld
              refine hK.out _ _ ?_ (fun hHeld => ?_)
              · exact trivial
              clear hK K
              try simp only [Act.put, List.getElem_toArray, List.getElem_cons_zero, List.getElem_cons_succ, List.setIfInBounds_toArray, List.set_cons_zero, List.set_cons_succ]
              refine wpAnyH_ready (rs := [5]) (by kernel_rfl) (by simp) ?_
              refine AllReadyH.cons rfl (fun K hK => ?_) AllReadyH.nil
              have xz0 := xz.cell 0 rfl
              have xzz0 := xz.frozen 0
              have xz1 := xz.cell 1 rfl
              have xzz1 := xz.frozen 1
              have xz2 := xz.cell 2 rfl
              have xzz2 := xz.frozen 2
              go_simp
              refine (ref07low _ (sumN_lt _) _).mono ?_
              rintro e V3 ⟨rfl, hk⟩
              clear xz0 xzz0 xz1 xzz1 xz2 xzz2
              replace hB := below_seq hB hk
              replace xz := xz.seq hk
              clear hk
              have xz0 := xz.cell 0 rfl
              have xzz0 := xz.frozen 0
              have xz1 := xz.cell 1 rfl
              have xzz1 := xz.frozen 1
              have xz2 := xz.cell 2 rfl
              have xzz2 := xz.frozen 2
              try go_wp2_with fail
              clear xz0 xzz0 xz1 xzz1 xz2 xzz2
              clear hHeld
              refine hK.out _ _ ?_ (fun hHeld => ?_)
              · exact trivial
              clear hK K
              try simp only [Act.put, List.getElem_toArray, List.getElem_cons_zero, List.getElem_cons_succ, List.setIfInBounds_toArray, List.set_cons_zero, List.set_cons_succ]
              refine wpAnyH_take (i := 6) (v := ?_) rfl (by kernel_rfl) (by kernel_rfl) (by kernel_rfl) (fun _ _ _ h => h) (Or.inl ⟨by rfl, ?_⟩) (by assumption) ?_
              rotate_left
              · intro w hSw; (try dsimp only at hSw); go_simp; try with_reducible rfl
              try simp only [Act.put, List.getElem_toArray, List.getElem_cons_zero, List.getElem_cons_succ, List.setIfInBounds_toArray, List.set_cons_zero, List.set_cons_succ]
              refine wpAnyH_take (i := 7) (v := ?_) rfl (by kernel_rfl) (by kernel_rfl) (by kernel_rfl) (fun _ _ _ h => h) (Or.inl ⟨by rfl, ?_⟩) (by assumption) ?_
              rotate_left
              · intro w hSw; (try dsimp only at hSw); go_simp; try with_reducible rfl
              try simp only [Act.put, List.getElem_toArray, List.getElem_cons_zero, List.getElem_cons_succ, List.setIfInBounds_toArray, List.set_cons_zero, List.set_cons_succ]
              refine wpAnyH_done (by kernel_rfl) ?_ _
              clear hHeld
              have xz0 := xz.cell 0 rfl
              have xzz0 := xz.frozen 0
              have xz1 := xz.cell 1 rfl
              have xzz1 := xz.frozen 1
              have xz2 := xz.cell 2 rfl
              have xzz2 := xz.frozen 2
              go_wp2
              clear xz0 xzz0 xz1 xzz1 xz2 xzz2
              replace xz : Box 87 (((V3.setCell ⟨W.heap.size, 0, none⟩ (.int .i64 0)).setCell ⟨W.heap.size, 1, none⟩ (.int .u64 0)).setCell ⟨W.heap.size, 2, none⟩ (.int .u64 0)) (W.heap.size) [.int .i64 0, .int .u64 0, .int .u64 0] := (((xz.set 0 (.int .i64 0)).set 1 (.int .u64 0)).set 2 (.int .u64 0))
              replace hB : Below W.heap.size W (((V3.setCell ⟨W.heap.size, 0, none⟩ (.int .i64 0)).setCell ⟨W.heap.size, 1, none⟩ (.int .u64 0)).setCell ⟨W.heap.size, 2, none⟩ (.int .u64 0)) := (((hB.setCell (Nat.le_refl _) _).setCell (Nat.le_refl _) _).setCell (Nat.le_refl _) _)
              generalize (((V3.setCell ⟨W.heap.size, 0, none⟩ (.int .i64 0)).setCell ⟨W.heap.size, 1, none⟩ (.int .u64 0)).setCell ⟨W.heap.size, 2, none⟩ (.int .u64 0)) = V4 at *
              have xz0 := xz.cell 0 rfl
              have xzz0 := xz.frozen 0
              have xz1 := xz.cell 1 rfl
              have xzz1 := xz.frozen 1
              have xz2 := xz.cell 2 rfl
              have xzz2 := xz.frozen 2
              exact bodyPost_ret (v := .tuple #[.agg #[.int .i64 0, .int .u64 0, .int .u64 0], .int .i64 8]) (by simp [results, Tryz.results81, go_sem, xz0, xz1, xz2]) rfl ⟨by rw [HR.out, HE.out]; rfl, hB⟩
          · have n0 : ¬ (s[1].toNat : Int) < 1 := by omega
            have n2 : decide ((s[1].toNat : Int) < 1) = false := by simpa using n0
            have n1 : ¬ (s[1].toNat : Int) > 3 := by omega
            have n3 : decide (3 < (s[1].toNat : Int)) = false := by simpa using n1
            have wk : IntKind.i64.wrap (s[1].toNat : Int) = (s[1].toNat : Int) := IntWalk.i64_in _ (by omega)
            by_cases h5 : (bl s).drop 22 = markL
            · have b5 := beq_texts ((mark_iff s h1).1 h5)
              rw [← h1] at b5
              have hE : decE (bl s) = 0 := by unfold decE; rw [if_neg (by omega), if_neg hnb, if_neg (by rw [g0]; simpa using h2), if_neg (by simpa using h3), if_neg (by rw [g1]; exact h4), if_neg (by simpa using h5)]
              have HE := Lib.hid hE
              have HR := Lib.hid (show decR (bl s) = ⟨(s[1].toNat : Int), getN (((bl s).drop 2).take 8), getN (((bl s).drop 10).take 8)⟩ from by rw [← g1]; exact if_pos hE)
              have TG1 := Lib.hid (fun (V : World) => (show Calls Tryz.prog 109 #[.string (s.extract 2 10)] V fun e W' => e = .returned (.int .u64 ((getN (((bl s).drop 2).take 8) : Nat) : Int)) ∧ W' = V from by
                have h := ref06Get (s.extract 2 10) V (by simp; unfold maxLen; omega)
                rwa [get_part s 2 10 rfl] at h))
              have TG2 := Lib.hid (fun (V : World) => (show Calls Tryz.prog 109 #[.string (s.extract 10 18)] V fun e W' => e = .returned (.int .u64 ((getN (((bl s).drop 10).take 8) : Nat) : Int)) ∧ W' = V from by
                have h := ref06Get (s.extract 10 18) V (by simp; unfold maxLen; omega)
                rwa [get_part s 10 18 rfl] at h))
              clear h1 h2 h3 h4 h5 hE hb hnb g0 g1 hlen
              generalize getN (((bl s).drop 2).take 8) = x at *
              generalize getN (((bl s).drop 10).take 8) = y at *
              have hB : Below W.heap.size W (W.alloc (.cells #[.int .i64 0, .int .u64 0, .int .u64 0] 87)) := ((Below.refl _ _).alloc (Nat.le_refl _) _)
              have xz := (Box.new 87 W [.int .i64 0, .int .u64 0, .int .u64 0])
              go_enter Tryz.func81, Tryz.ntmps81
              go_wp2_with fail
              refine (TB.out _).mono ?_
              rintro e w' ⟨rfl, hw⟩
              rw [hw]
              clear hw w'
              go_wp2_with fail
              generalize (W.alloc (.cells #[.int .i64 0, .int .u64 0, .int .u64 0] 87)) = V1 at *
              replace hB := hB.drew
              replace xz := xz.drew
              refine wp_region_held_drew (S := fun w' => True) (by kernel_rfl) ?_ (fun hHeld => ?_)
              · exact trivial
              generalize V1.drew = V2 at *
              refine wpAnyH_take (i := 0) (v := ?_) rfl (by kernel_rfl) (by kernel_rfl) (by kernel_rfl) (fun _ _ _ h => h) (Or.inl ⟨by rfl, ?_⟩) (by assumption) ?_
              rotate_left
              · intro w hSw; (try dsimp only at hSw); go_simp; try with_reducible rfl
              try simp only [Act.put, List.getElem_toArray, List.getElem_cons_zero, List.getElem_cons_succ, List.setIfInBounds_toArray, List.set_cons_zero, List.set_cons_succ]
              refine wpAnyH_take (i := 1) (v := ?_) rfl (by kernel_rfl) (by kernel_rfl) (by kernel_rfl) (fun _ _ _ h => h) (Or.inl ⟨by rfl, ?_⟩) (by assumption) ?_
              rotate_left
              · intro w hSw; (try dsimp only at hSw); go_simp; try with_reducible rfl
              try simp only [Act.put, List.getElem_toArray, List.getElem_cons_zero, List.getElem_cons_succ, List.setIfInBounds_toArray, List.set_cons_zero, List.set_cons_succ]
              refine wpAnyH_take (i := 2) (v := ?_) rfl (by kernel_rfl) (by kernel_rfl) (by kernel_rfl) (fun _ _ _ h => h) (Or.inl ⟨by rfl, ?_⟩) (by assumption) ?_
              rotate_left
              · intro w hSw; (try dsimp only at hSw); go_simp; try with_reducible rfl
              try simp only [Act.put, List.getElem_toArray, List.getElem_cons_zero, List.getElem_cons_succ, List.setIfInBounds_toArray, List.set_cons_zero, List.set_cons_succ]
              refine wpAnyH_take (i := 3) (v := ?_) rfl (by kernel_rfl) (by kernel_rfl) (by kernel_rfl) (fun _ _ _ h => h) (Or.inl ⟨by rfl, ?_⟩) (by assumption) ?_
              rotate_left
              · intro w hSw; (try dsimp only at hSw); go_simp; try with_reducible rfl
              try simp only [Act.put, List.getElem_toArray, List.getElem_cons_zero, List.getElem_cons_succ, List.setIfInBounds_toArray, List.set_cons_zero, List.set_cons_succ]
              refine wpAnyH_ready (rs := [4]) (by kernel_rfl) (by simp) ?_
              refine AllReadyH.cons rfl (fun K hK => ?_) AllReadyH.nil
              have xz0 := xz.cell 0 rfl
              have xzz0 := xz.frozen 0
              have xz1 := xz.cell 1 rfl
              have xzz1 := xz.frozen 1
              have xz2 := xz.cell 2 rfl
              have xzz2 := xz.frozen 2
              go_simp
              refine (TS.out _).mono ?_
              rintro e w' ⟨rfl, hw⟩
              rw [hw]
              clear hw w'
              try go_wp2_with fail
              clear xz0 xzz0 xz1 xzz1 xz2 xzz2
              clear hHeld
              refine hK.out _ _ ?_ (fun hHeld => ?_)
              · exact trivial
              clear hK K
              try simp only [Act.put, List.getElem_toArray, List.getElem_cons_zero, List.getElem_cons_succ, List.setIfInBounds_toArray, List.set_cons_zero, List.set_cons_succ]
              refine wpAnyH_ready (rs := [5]) (by kernel_rfl) (by simp) ?_
              refine AllReadyH.cons rfl (fun K hK => ?_) AllReadyH.nil
              have xz0 := xz.cell 0 rfl
              have xzz0 := xz.frozen 0
              have xz1 := xz.cell 1 rfl
              have xzz1 := xz.frozen 1
              have xz2 := xz.cell 2 rfl
              have xzz2 := xz.frozen 2
              go_simp
              refine (ref07low _ (sumN_lt _) _).mono ?_
              rintro e V3 ⟨rfl, hk⟩
              clear xz0 xzz0 xz1 xzz1 xz2 xzz2
              replace hB := below_seq hB hk
              replace xz := xz.seq hk
              clear hk
              have xz0 := xz.cell 0 rfl
              have xzz0 := xz.frozen 0
              have xz1 := xz.cell 1 rfl
              have xzz1 := xz.frozen 1
              have xz2 := xz.cell 2 rfl
              have xzz2 := xz.frozen 2
              try go_wp2_with fail
              clear xz0 xzz0 xz1 xzz1 xz2 xzz2
              clear hHeld
              refine hK.out _ _ ?_ (fun hHeld => ?_)
              · exact trivial
              clear hK K
              try simp only [Act.put, List.getElem_toArray, List.getElem_cons_zero, List.getElem_cons_succ, List.setIfInBounds_toArray, List.set_cons_zero, List.set_cons_succ]
              refine wpAnyH_take (i := 6) (v := ?_) rfl (by kernel_rfl) (by kernel_rfl) (by kernel_rfl) (fun _ _ _ h => h) (Or.inl ⟨by rfl, ?_⟩) (by assumption) ?_
              rotate_left
              · intro w hSw; (try dsimp only at hSw); go_simp; try with_reducible rfl
              try simp only [Act.put, List.getElem_toArray, List.getElem_cons_zero, List.getElem_cons_succ, List.setIfInBounds_toArray, List.set_cons_zero, List.set_cons_succ]
              refine wpAnyH_take (i := 7) (v := ?_) rfl (by kernel_rfl) (by kernel_rfl) (by kernel_rfl) (fun _ _ _ h => h) (Or.inl ⟨by rfl, ?_⟩) (by assumption) ?_
              rotate_left
              · intro w hSw; (try dsimp only at hSw); go_simp; try with_reducible rfl
              try simp only [Act.put, List.getElem_toArray, List.getElem_cons_zero, List.getElem_cons_succ, List.setIfInBounds_toArray, List.set_cons_zero, List.set_cons_succ]
              refine wpAnyH_done (by kernel_rfl) ?_ _
              clear hHeld
              have xz0 := xz.cell 0 rfl
              have xzz0 := xz.frozen 0
              have xz1 := xz.cell 1 rfl
              have xzz1 := xz.frozen 1
              have xz2 := xz.cell 2 rfl
              have xzz2 := xz.frozen 2
              go_wp2_with fail
              clear xz0 xzz0 xz1 xzz1 xz2 xzz2
              replace hB := hB.drew
              replace xz := xz.drew
              refine wp_region_held_drew (S := fun w' => True) (by kernel_rfl) ?_ (fun hHeld => ?_)
              · exact trivial
              generalize V3.drew = V4 at *
              refine wpAnyH_take (i := 0) (v := ?_) rfl (by kernel_rfl) (by kernel_rfl) (by kernel_rfl) (fun _ _ _ h => h) (Or.inl ⟨by rfl, ?_⟩) (by assumption) ?_
              rotate_left
              · intro w hSw; (try dsimp only at hSw); go_simp; try with_reducible rfl
              try simp only [Act.put, List.getElem_toArray, List.getElem_cons_zero, List.getElem_cons_succ, List.setIfInBounds_toArray, List.set_cons_zero, List.set_cons_succ]
              refine wpAnyH_take (i := 1) (v := ?_) rfl (by kernel_rfl) (by kernel_rfl) (by kernel_rfl) (fun _ _ _ h => h) (Or.inl ⟨by rfl, ?_⟩) (by assumption) ?_
              rotate_left
              · intro w hSw; (try dsimp only at hSw); go_simp; try with_reducible rfl
              try simp only [Act.put, List.getElem_toArray, List.getElem_cons_zero, List.getElem_cons_succ, List.setIfInBounds_toArray, List.set_cons_zero, List.set_cons_succ]
              refine wpAnyH_ready (rs := [2]) (by kernel_rfl) (by simp) ?_
              refine AllReadyH.cons rfl (fun K hK => ?_) AllReadyH.nil
              have xz0 := xz.cell 0 rfl
              have xzz0 := xz.frozen 0
              have xz1 := xz.cell 1 rfl
              have xzz1 := xz.frozen 1
              have xz2 := xz.cell 2 rfl
              have xzz2 := xz.frozen 2
              go_simp
              refine (ref07Mark _).mono ?_
              rintro e V5 ⟨rfl, hk⟩
              clear xz0 xzz0 xz1 xzz1 xz2 xzz2
              replace hB := below_seq hB hk
              replace xz := xz.seq hk
              clear hk
              have xz0 := xz.cell 0 rfl
              have xzz0 := xz.frozen 0
              have xz1 := xz.cell 1 rfl
              have xzz1 := xz.frozen 1
              have xz2 := xz.cell 2 rfl
              have xzz2 := xz.frozen 2
              try go_wp2_with fail
              clear xz0 xzz0 xz1 xzz1 xz2 xzz2
              clear hHeld
              refine hK.out _ _ ?_ (fun hHeld => ?_)
              · exact trivial
              clear hK K
              try simp only [Act.put, List.getElem_toArray, List.getElem_cons_zero, List.getElem_cons_succ, List.setIfInBounds_toArray, List.set_cons_zero, List.set_cons_succ]
              refine wpAnyH_take (i := 3) (v := ?_) rfl (by kernel_rfl) (by kernel_rfl) (by kernel_rfl) (fun _ _ _ h => h) (Or.inl ⟨by rfl, ?_⟩) (by assumption) ?_
              rotate_left
              · intro w hSw; (try dsimp only at hSw); go_simp; try with_reducible rfl
              try simp only [Act.put, List.getElem_toArray, List.getElem_cons_zero, List.getElem_cons_succ, List.setIfInBounds_toArray, List.set_cons_zero, List.set_cons_succ]
              refine wpAnyH_take (i := 4) (v := ?_) rfl (by kernel_rfl) (by kernel_rfl) (by kernel_rfl) (fun _ _ _ h => h) (Or.inl ⟨by rfl, ?_⟩) (by assumption) ?_
              rotate_left
              · intro w hSw; (try dsimp only at hSw); go_simp; try with_reducible rfl
              try simp only [Act.put, List.getElem_toArray, List.getElem_cons_zero, List.getElem_cons_succ, List.setIfInBounds_toArray, List.set_cons_zero, List.set_cons_succ]
              refine wpAnyH_done (by kernel_rfl) ?_ _
              clear hHeld
              have xz0 := xz.cell 0 rfl
              have xzz0 := xz.frozen 0
              have xz1 := xz.cell 1 rfl
              have xzz1 := xz.frozen 1
              have xz2 := xz.cell 2 rfl
              have xzz2 := xz.frozen 2
              go_wp2_with fail
              clear xz0 xzz0 xz1 xzz1 xz2 xzz2
              replace hB := hB.drew
              replace xz := xz.drew
              refine wp_region_held_drew (S := fun w' => True) (by kernel_rfl) ?_ (fun hHeld => ?_)
              · exact trivial
              generalize V5.drew = V6 at *
              refine wpAnyH_take (i := 0) (v := ?_) rfl (by kernel_rfl) (by kernel_rfl) (by kernel_rfl) (fun _ _ _ h => h) (Or.inl ⟨by rfl, ?_⟩) (by assumption) ?_
              rotate_left
              · intro w hSw; (try dsimp only at hSw); go_simp; try with_reducible rfl
              try simp only [Act.put, List.getElem_toArray, List.getElem_cons_zero, List.getElem_cons_succ, List.setIfInBounds_toArray, List.set_cons_zero, List.set_cons_succ]
              refine wpAnyH_take (i := 1) (v := ?_) rfl (by kernel_rfl) (by kernel_rfl) (by kernel_rfl) (fun _ _ _ h => h) (Or.inl ⟨by rfl, ?_⟩) (by assumption) ?_
              rotate_left
              · intro w hSw; (try dsimp only at hSw); go_simp; try with_reducible rfl
              try simp only [Act.put, List.getElem_toArray, List.getElem_cons_zero, List.getElem_cons_succ, List.setIfInBounds_toArray, List.set_cons_zero, List.set_cons_succ]
              refine wpAnyH_take (i := 2) (v := ?_) rfl (by kernel_rfl) (by kernel_rfl) (by kernel_rfl) (fun _ _ _ h => h) (Or.inl ⟨by rfl, ?_⟩) (by assumption) ?_
              rotate_left
              · intro w hSw; (try dsimp only at hSw); go_simp; try with_reducible rfl
              try simp only [Act.put, List.getElem_toArray, List.getElem_cons_zero, List.getElem_cons_succ, List.setIfInBounds_toArray, List.set_cons_zero, List.set_cons_succ]
              refine wpAnyH_take (i := 3) (v := ?_) rfl (by kernel_rfl) (by kernel_rfl) (by kernel_rfl) (fun _ _ _ h => h) (Or.inl ⟨by rfl, ?_⟩) (by assumption) ?_
              rotate_left
              · intro w hSw; (try dsimp only at hSw); go_simp; try with_reducible rfl
              try simp only [Act.put, List.getElem_toArray, List.getElem_cons_zero, List.getElem_cons_succ, List.setIfInBounds_toArray, List.set_cons_zero, List.set_cons_succ]
              refine wpAnyH_take (i := 4) (v := ?_) rfl (by kernel_rfl) (by kernel_rfl) (by kernel_rfl) (fun _ _ _ h => h) (Or.inl ⟨by rfl, ?_⟩) (by assumption) ?_
              rotate_left
              · intro w hSw; (try dsimp only at hSw); go_simp; try with_reducible rfl
              try simp only [Act.put, List.getElem_toArray, List.getElem_cons_zero, List.getElem_cons_succ, List.setIfInBounds_toArray, List.set_cons_zero, List.set_cons_succ]
              refine wpAnyH_take (i := 6) (v := ?_) rfl (by kernel_rfl) (by kernel_rfl) (by kernel_rfl) (fun _ _ _ h => h) (Or.inl ⟨by rfl, ?_⟩) (by assumption) ?_
              rotate_left
              · intro w hSw; (try dsimp only at hSw); go_simp; try with_reducible rfl
              try simp only [Act.put, List.getElem_toArray, List.getElem_cons_zero, List.getElem_cons_succ, List.setIfInBounds_toArray, List.set_cons_zero, List.set_cons_succ]
              refine wpAnyH_take (i := 7) (v := ?_) rfl (by kernel_rfl) (by kernel_rfl) (by kernel_rfl) (fun _ _ _ h => h) (Or.inl ⟨by rfl, ?_⟩) (by assumption) ?_
              rotate_left
              · intro w hSw; (try dsimp only at hSw); go_simp; try with_reducible rfl
              try simp only [Act.put, List.getElem_toArray, List.getElem_cons_zero, List.getElem_cons_succ, List.setIfInBounds_toArray, List.set_cons_zero, List.set_cons_succ]
              refine wpAnyH_ready (rs := [5]) (by kernel_rfl) (by simp) ?_
              refine AllReadyH.cons rfl (fun K hK => ?_) AllReadyH.nil
              have xz0 := xz.cell 0 rfl
              have xzz0 := xz.frozen 0
              have xz1 := xz.cell 1 rfl
              have xzz1 := xz.frozen 1
              have xz2 := xz.cell 2 rfl
              have xzz2 := xz.frozen 2
              go_simp
              refine (TG1.out _).mono ?_
              rintro e w' ⟨rfl, hw⟩
              rw [hw]
              clear hw w'
              try go_wp2_with fail
              clear xz0 xzz0 xz1 xzz1 xz2 xzz2
              clear hHeld
              refine hK.out _ _ ?_ (fun hHeld => ?_)
              · exact trivial
              clear hK K
              try simp only [Act.put, List.getElem_toArray, List.getElem_cons_zero, List.getElem_cons_succ, List.setIfInBounds_toArray, List.set_cons_zero, List.set_cons_succ]
              refine wpAnyH_ready (rs := [8]) (by kernel_rfl) (by simp) ?_
              refine AllReadyH.cons rfl (fun K hK => ?_) AllReadyH.nil
              have xz0 := xz.cell 0 rfl
              have xzz0 := xz.frozen 0
              have xz1 := xz.cell 1 rfl
              have xzz1 := xz.frozen 1
              have xz2 := xz.cell 2 rfl
              have xzz2 := xz.frozen 2
              go_simp
              refine (TG2.out _).mono ?_
              rintro e w' ⟨rfl, hw⟩
              rw [hw]
              clear hw w'
              try go_wp2_with fail
              clear xz0 xzz0 xz1 xzz1 xz2 xzz2
              clear hHeld
              refine hK.out _ _ ?_ (fun hHeld => ?_)
              · exact trivial
              clear hK K
              try simp only [Act.put, List.getElem_toArray, List.getElem_cons_zero, List.getElem_cons_succ, List.setIfInBounds_toArray, List.set_cons_zero, List.set_cons_succ]
              refine wpAnyH_ready (rs := [9]) (by kernel_rfl) (by simp) ?_
              refine AllReadyH.cons rfl (fun K hK => ?_) AllReadyH.nil
              have xz0 := xz.cell 0 rfl
              have xzz0 := xz.frozen 0
              have xz1 := xz.cell 1 rfl
              have xzz1 := xz.frozen 1
              have xz2 := xz.cell 2 rfl
              have xzz2 := xz.frozen 2
              go_simp
              try go_wp2_with fail
              clear xz0 xzz0 xz1 xzz1 xz2 xzz2
              clear hHeld
              refine hK.out _ _ ?_ (fun hHeld => ?_)
              · exact trivial
              clear hK K
              try simp only [Act.put, List.getElem_toArray, List.getElem_cons_zero, List.getElem_cons_succ, List.setIfInBounds_toArray, List.set_cons_zero, List.set_cons_succ]
              refine wpAnyH_ready (rs := [10]) (by kernel_rfl) (by simp) ?_
              refine AllReadyH.cons rfl (fun K hK => ?_) AllReadyH.nil
              have xz0 := xz.cell 0 rfl
              have xzz0 := xz.frozen 0
              have xz1 := xz.cell 1 rfl
              have xzz1 := xz.frozen 1
              have xz2 := xz.cell 2 rfl
              have xzz2 := xz.frozen 2
              go_simp
              try go_wp2_with fail
              clear xz0 xzz0 xz1 xzz1 xz2 xzz2
              replace xz : Box 87 (((V6.setCell ⟨W.heap.size, 0, none⟩ (.int .i64 (s[1].toNat : Int))).setCell ⟨W.heap.size, 1, none⟩ (.int .u64 (x : Int))).setCell ⟨W.heap.size, 2, none⟩ (.int .u64 (y : Int))) (W.heap.size) [.int .i64 (s[1].toNat : Int), .int .u64 (x : Int), .int .u64 (y : Int)] := (((xz.set 0 (.int .i64 (s[1].toNat : Int))).set 1 (.int .u64 (x : Int))).set 2 (.int .u64 (y : Int)))
              replace hB : Below W.heap.size W (((V6.setCell ⟨W.heap.size, 0, none⟩ (.int .i64 (s[1].toNat : Int))).setCell ⟨W.heap.size, 1, none⟩ (.int .u64 (x : Int))).setCell ⟨W.heap.size, 2, none⟩ (.int .u64 (y : Int))) := (((hB.setCell (Nat.le_refl _) _).setCell (Nat.le_refl _) _).setCell (Nat.le_refl _) _)
              generalize (((V6.setCell ⟨W.heap.size, 0, none⟩ (.int .i64 (s[1].toNat : Int))).setCell ⟨W.heap.size, 1, none⟩ (.int .u64 (x : Int))).setCell ⟨W.heap.size, 2, none⟩ (.int .u64 (y : Int))) = V7 at *
              clear hHeld
              refine hK.out _ _ ?_ (fun hHeld => ?_)
              · exact trivial
              clear hK K
              try simp only [Act.put, List.getElem_toArray, List.getElem_cons_zero, List.getElem_cons_succ, List.setIfInBounds_toArray, List.set_cons_zero, List.set_cons_succ]
              refine wpAnyH_take (i := 11) (v := ?_) rfl (by kernel_rfl) (by kernel_rfl) (by kernel_rfl) (fun _ _ _ h => h) (Or.inl ⟨by rfl, ?_⟩) (by assumption) ?_
              rotate_left
              · intro w hSw; (try dsimp only at hSw); go_simp; try with_reducible rfl
              try simp only [Act.put, List.getElem_toArray, List.getElem_cons_zero, List.getElem_cons_succ, List.setIfInBounds_toArray, List.set_cons_zero, List.set_cons_succ]
              refine wpAnyH_done (by kernel_rfl) ?_ _
              clear hHeld
              have xz0 := xz.cell 0 rfl
              have xzz0 := xz.frozen 0
              have xz1 := xz.cell 1 rfl
              have xzz1 := xz.frozen 1
              have xz2 := xz.cell 2 rfl
              have xzz2 := xz.frozen 2
              go_wp2
              exact bodyPost_ret (v := .tuple #[.agg #[.int .i64 (s[1].toNat : Int), .int .u64 (x : Int), .int .u64 (y : Int)], .int .i64 0]) (by simp [results, Tryz.results81, go_sem, xz0, xz1, xz2]) rfl ⟨by rw [HR.out, HE.out], hB⟩
            · have b5 := bne_texts (fun h => h5 ((mark_iff s h1).2 h))
              rw [← h1] at b5
              have hE : decE (bl s) = 9 := by unfold decE; rw [if_neg (by omega), if_neg hnb, if_neg (by rw [g0]; simpa using h2), if_neg (by simpa using h3), if_neg (by rw [g1]; exact h4), if_pos h5]
              clear h1 h2 h3 h4 h5 hb hnb g0 g1 hlen
              have HE := Lib.hid hE
              have HR := Lib.hid (show decR (bl s) = ⟨0, 0, 0⟩ from if_neg (by rw [hE]; decide))
              clear hE
              have hB : Below W.heap.size W (W.alloc (.cells #[.int .i64 0, .int .u64 0, .int .u64 0] 87)) := ((Below.refl _ _).alloc (Nat.le_refl _) _)
              have xz := (Box.new 87 W [.int .i64 0, .int .u64 0, .int .u64 0])
              go_enter Tryz.func81, Tryz.ntmps81
              go_wp2_with fail
              refine (TB.out _).mono ?_
              rintro e w' ⟨rfl, hw⟩
              rw [hw]
              clear hw w'
              go_wp2_with fail
              generalize (W.alloc (.cells #[.int .i64 0, .int .u64 0, .int .u64 0] 87)) = V1 at *
              replace hB := hB.drew
              replace xz := xz.drew
              refine wp_region_held_drew (S := fun w' => True) (by kernel_rfl) ?_ (fun hHeld => ?_)
              · exact trivial
              generalize V1.drew = V2 at *
              refine wpAnyH_take (i := 0) (v := ?_) rfl (by kernel_rfl) (by kernel_rfl) (by kernel_rfl) (fun _ _ _ h => h) (Or.inl ⟨by rfl, ?_⟩) (by assumption) ?_
              rotate_left
              · intro w hSw; (try dsimp only at hSw); go_simp; try with_reducible rfl
              try simp only [Act.put, List.getElem_toArray, List.getElem_cons_zero, List.getElem_cons_succ, List.setIfInBounds_toArray, List.set_cons_zero, List.set_cons_succ]
              refine wpAnyH_take (i := 1) (v := ?_) rfl (by kernel_rfl) (by kernel_rfl) (by kernel_rfl) (fun _ _ _ h => h) (Or.inl ⟨by rfl, ?_⟩) (by assumption) ?_
              rotate_left
              · intro w hSw; (try dsimp only at hSw); go_simp; try with_reducible rfl
              try simp only [Act.put, List.getElem_toArray, List.getElem_cons_zero, List.getElem_cons_succ, List.setIfInBounds_toArray, List.set_cons_zero, List.set_cons_succ]
              refine wpAnyH_take (i := 2) (v := ?_) rfl (by kernel_rfl) (by kernel_rfl) (by kernel_rfl) (fun _ _ _ h => h) (Or.inl ⟨by rfl, ?_⟩) (by assumption) ?_
              rotate_left
              · intro w hSw; (try dsimp only at hSw); go_simp; try with_reducible rfl
              try simp only [Act.put, List.getElem_toArray, List.getElem_cons_zero, List.getElem_cons_succ, List.setIfInBounds_toArray, List.set_cons_zero, List.set_cons_succ]
              refine wpAnyH_take (i := 3) (v := ?_) rfl (by kernel_rfl) (by kernel_rfl) (by kernel_rfl) (fun _ _ _ h => h) (Or.inl ⟨by rfl, ?_⟩) (by assumption) ?_
              rotate_left
              · intro w hSw; (try dsimp only at hSw); go_simp; try with_reducible rfl
              try simp only [Act.put, List.getElem_toArray, List.getElem_cons_zero, List.getElem_cons_succ, List.setIfInBounds_toArray, List.set_cons_zero, List.set_cons_succ]
              refine wpAnyH_ready (rs := [4]) (by kernel_rfl) (by simp) ?_
              refine AllReadyH.cons rfl (fun K hK => ?_) AllReadyH.nil
              have xz0 := xz.cell 0 rfl
              have xzz0 := xz.frozen 0
              have xz1 := xz.cell 1 rfl
              have xzz1 := xz.frozen 1
              have xz2 := xz.cell 2 rfl
              have xzz2 := xz.frozen 2
              go_simp
              refine (TS.out _).mono ?_
              rintro e w' ⟨rfl, hw⟩
              rw [hw]
              clear hw w'
              try go_wp2_with fail
              clear xz0 xzz0 xz1 xzz1 xz2 xzz2
              clear hHeld
              refine hK.out _ _ ?_ (fun hHeld => ?_)
              · exact trivial
              clear hK K
              try simp only [Act.put, List.getElem_toArray, List.getElem_cons_zero, List.getElem_cons_succ, List.setIfInBounds_toArray, List.set_cons_zero, List.set_cons_succ]
              refine wpAnyH_ready (rs := [5]) (by kernel_rfl) (by simp) ?_
              refine AllReadyH.cons rfl (fun K hK => ?_) AllReadyH.nil
              have xz0 := xz.cell 0 rfl
              have xzz0 := xz.frozen 0
              have xz1 := xz.cell 1 rfl
              have xzz1 := xz.frozen 1
              have xz2 := xz.cell 2 rfl
              have xzz2 := xz.frozen 2
              go_simp
              refine (ref07low _ (sumN_lt _) _).mono ?_
              rintro e V3 ⟨rfl, hk⟩
              clear xz0 xzz0 xz1 xzz1 xz2 xzz2
              replace hB := below_seq hB hk
              replace xz := xz.seq hk
              clear hk
              have xz0 := xz.cell 0 rfl
              have xzz0 := xz.frozen 0
              have xz1 := xz.cell 1 rfl
              have xzz1 := xz.frozen 1
              have xz2 := xz.cell 2 rfl
              have xzz2 := xz.frozen 2
              try go_wp2_with fail
              clear xz0 xzz0 xz1 xzz1 xz2 xzz2
              clear hHeld
              refine hK.out _ _ ?_ (fun hHeld => ?_)
              · exact trivial
              clear hK K
              try simp only [Act.put, List.getElem_toArray, List.getElem_cons_zero, List.getElem_cons_succ, List.setIfInBounds_toArray, List.set_cons_zero, List.set_cons_succ]
              refine wpAnyH_take (i := 6) (v := ?_) rfl (by kernel_rfl) (by kernel_rfl) (by kernel_rfl) (fun _ _ _ h => h) (Or.inl ⟨by rfl, ?_⟩) (by assumption) ?_
              rotate_left
              · intro w hSw; (try dsimp only at hSw); go_simp; try with_reducible rfl
              try simp only [Act.put, List.getElem_toArray, List.getElem_cons_zero, List.getElem_cons_succ, List.setIfInBounds_toArray, List.set_cons_zero, List.set_cons_succ]
              refine wpAnyH_take (i := 7) (v := ?_) rfl (by kernel_rfl) (by kernel_rfl) (by kernel_rfl) (fun _ _ _ h => h) (Or.inl ⟨by rfl, ?_⟩) (by assumption) ?_
              rotate_left
              · intro w hSw; (try dsimp only at hSw); go_simp; try with_reducible rfl
              try simp only [Act.put, List.getElem_toArray, List.getElem_cons_zero, List.getElem_cons_succ, List.setIfInBounds_toArray, List.set_cons_zero, List.set_cons_succ]
              refine wpAnyH_done (by kernel_rfl) ?_ _
              clear hHeld
              have xz0 := xz.cell 0 rfl
              have xzz0 := xz.frozen 0
              have xz1 := xz.cell 1 rfl
              have xzz1 := xz.frozen 1
              have xz2 := xz.cell 2 rfl
              have xzz2 := xz.frozen 2
              go_wp2_with fail
              clear xz0 xzz0 xz1 xzz1 xz2 xzz2
              replace hB := hB.drew
              replace xz := xz.drew
              refine wp_region_held_drew (S := fun w' => True) (by kernel_rfl) ?_ (fun hHeld => ?_)
              · exact trivial
              generalize V3.drew = V4 at *
              refine wpAnyH_take (i := 0) (v := ?_) rfl (by kernel_rfl) (by kernel_rfl) (by kernel_rfl) (fun _ _ _ h => h) (Or.inl ⟨by rfl, ?_⟩) (by assumption) ?_
              rotate_left
              · intro w hSw; (try dsimp only at hSw); go_simp; try with_reducible rfl
              try simp only [Act.put, List.getElem_toArray, List.getElem_cons_zero, List.getElem_cons_succ, List.setIfInBounds_toArray, List.set_cons_zero, List.set_cons_succ]
              refine wpAnyH_take (i := 1) (v := ?_) rfl (by kernel_rfl) (by kernel_rfl) (by kernel_rfl) (fun _ _ _ h => h) (Or.inl ⟨by rfl, ?_⟩) (by assumption) ?_
              rotate_left
              · intro w hSw; (try dsimp only at hSw); go_simp; try with_reducible rfl
              try simp only [Act.put, List.getElem_toArray, List.getElem_cons_zero, List.getElem_cons_succ, List.setIfInBounds_toArray, List.set_cons_zero, List.set_cons_succ]
              refine wpAnyH_ready (rs := [2]) (by kernel_rfl) (by simp) ?_
              refine AllReadyH.cons rfl (fun K hK => ?_) AllReadyH.nil
              have xz0 := xz.cell 0 rfl
              have xzz0 := xz.frozen 0
              have xz1 := xz.cell 1 rfl
              have xzz1 := xz.frozen 1
              have xz2 := xz.cell 2 rfl
              have xzz2 := xz.frozen 2
              go_simp
              refine (ref07Mark _).mono ?_
              rintro e V5 ⟨rfl, hk⟩
              clear xz0 xzz0 xz1 xzz1 xz2 xzz2
              replace hB := below_seq hB hk
              replace xz := xz.seq hk
              clear hk
              have xz0 := xz.cell 0 rfl
              have xzz0 := xz.frozen 0
              have xz1 := xz.cell 1 rfl
              have xzz1 := xz.frozen 1
              have xz2 := xz.cell 2 rfl
              have xzz2 := xz.frozen 2
              try go_wp2_with fail
              clear xz0 xzz0 xz1 xzz1 xz2 xzz2
              clear hHeld
              refine hK.out _ _ ?_ (fun hHeld => ?_)
              · exact trivial
              clear hK K
              try simp only [Act.put, List.getElem_toArray, List.getElem_cons_zero, List.getElem_cons_succ, List.setIfInBounds_toArray, List.set_cons_zero, List.set_cons_succ]
              refine wpAnyH_take (i := 3) (v := ?_) rfl (by kernel_rfl) (by kernel_rfl) (by kernel_rfl) (fun _ _ _ h => h) (Or.inl ⟨by rfl, ?_⟩) (by assumption) ?_
              rotate_left
              · intro w hSw; (try dsimp only at hSw); go_simp; try with_reducible rfl
              try simp only [Act.put, List.getElem_toArray, List.getElem_cons_zero, List.getElem_cons_succ, List.setIfInBounds_toArray, List.set_cons_zero, List.set_cons_succ]
              refine wpAnyH_take (i := 4) (v := ?_) rfl (by kernel_rfl) (by kernel_rfl) (by kernel_rfl) (fun _ _ _ h => h) (Or.inl ⟨by rfl, ?_⟩) (by assumption) ?_
              rotate_left
              · intro w hSw; (try dsimp only at hSw); go_simp; try with_reducible rfl
              try simp only [Act.put, List.getElem_toArray, List.getElem_cons_zero, List.getElem_cons_succ, List.setIfInBounds_toArray, List.set_cons_zero, List.set_cons_succ]
              refine wpAnyH_done (by kernel_rfl) ?_ _
              clear hHeld
              have xz0 := xz.cell 0 rfl
              have xzz0 := xz.frozen 0
              have xz1 := xz.cell 1 rfl
              have xzz1 := xz.frozen 1
              have xz2 := xz.cell 2 rfl
              have xzz2 := xz.frozen 2
              go_wp2
              clear xz0 xzz0 xz1 xzz1 xz2 xzz2
              replace xz : Box 87 (((V5.setCell ⟨W.heap.size, 0, none⟩ (.int .i64 0)).setCell ⟨W.heap.size, 1, none⟩ (.int .u64 0)).setCell ⟨W.heap.size, 2, none⟩ (.int .u64 0)) (W.heap.size) [.int .i64 0, .int .u64 0, .int .u64 0] := (((xz.set 0 (.int .i64 0)).set 1 (.int .u64 0)).set 2 (.int .u64 0))
              replace hB : Below W.heap.size W (((V5.setCell ⟨W.heap.size, 0, none⟩ (.int .i64 0)).setCell ⟨W.heap.size, 1, none⟩ (.int .u64 0)).setCell ⟨W.heap.size, 2, none⟩ (.int .u64 0)) := (((hB.setCell (Nat.le_refl _) _).setCell (Nat.le_refl _) _).setCell (Nat.le_refl _) _)
              generalize (((V5.setCell ⟨W.heap.size, 0, none⟩ (.int .i64 0)).setCell ⟨W.heap.size, 1, none⟩ (.int .u64 0)).setCell ⟨W.heap.size, 2, none⟩ (.int .u64 0)) = V6 at *
              have xz0 := xz.cell 0 rfl
              have xzz0 := xz.frozen 0
              have xz1 := xz.cell 1 rfl
              have xzz1 := xz.frozen 1
              have xz2 := xz.cell 2 rfl
              have xzz2 := xz.frozen 2
              exact bodyPost_ret (v := .tuple #[.agg #[.int .i64 0, .int .u64 0, .int .u64 0], .int .i64 9]) (by simp [results, Tryz.results81, go_sem, xz0, xz1, xz2]) rfl ⟨by rw [HR.out, HE.out]; rfl, hB⟩
        · have b3 := bne_texts (fun h => h3 ((sumOk_iff s h1).2 h))
          have hE : decE (bl s) = 7 := by unfold decE; rw [if_neg (by omega), if_neg hnb, if_neg (by rw [g0]; simpa using h2), if_pos h3]
          clear h2 h3 hb hnb g0 g1 h1 hlen
          have HE := Lib.hid hE
          have HR := Lib.hid (show decR (bl s) = ⟨0, 0, 0⟩ from if_neg (by rw [hE]; decide))
          clear hE
          have hB : Below W.heap.size W (W.alloc (.cells #[.int .i64 0, .int .u64 0, .int .u64 0] 87)) := ((Below.refl _ _).alloc (Nat.le_refl _) _)
          have xz := (Box.new 87 W [.int .i64 0, .int .u64 0, .int .u64 0])
          go_enter Tryz.func81, Tryz.ntmps81
          go_wp2_with fail
          refine (TB.out _).mono ?_
          rintro e w' ⟨rfl, hw⟩
          rw [hw]
          clear hw w'
          go_wp2_with fail
          generalize (W.alloc (.cells #[.int .i64 0, .int .u64 0, .int .u64 0] 87)) = V1 at *
          replace hB := hB.drew
          replace xz := xz.drew
          refine wp_region_held_drew (S := fun w' => True) (by kernel_rfl) ?_ (fun hHeld => ?_)
          · exact trivial
          generalize V1.drew = V2 at *
          refine wpAnyH_take (i := 0) (v := ?_) rfl (by kernel_rfl) (by kernel_rfl) (by kernel_rfl) (fun _ _ _ h => h) (Or.inl ⟨by rfl, ?_⟩) (by assumption) ?_
          rotate_left
          · intro w hSw; (try dsimp only at hSw); go_simp; try with_reducible rfl
          try simp only [Act.put, List.getElem_toArray, List.getElem_cons_zero, List.getElem_cons_succ, List.setIfInBounds_toArray, List.set_cons_zero, List.set_cons_succ]
          refine wpAnyH_take (i := 1) (v := ?_) rfl (by kernel_rfl) (by kernel_rfl) (by kernel_rfl) (fun _ _ _ h => h) (Or.inl ⟨by rfl, ?_⟩) (by assumption) ?_
          rotate_left
          · intro w hSw; (try dsimp only at hSw); go_simp; try with_reducible rfl
          try simp only [Act.put, List.getElem_toArray, List.getElem_cons_zero, List.getElem_cons_succ, List.setIfInBounds_toArray, List.set_cons_zero, List.set_cons_succ]
          refine wpAnyH_take (i := 2) (v := ?_) rfl (by kernel_rfl) (by kernel_rfl) (by kernel_rfl) (fun _ _ _ h => h) (Or.inl ⟨by rfl, ?_⟩) (by assumption) ?_
          rotate_left
          · intro w hSw; (try dsimp only at hSw); go_simp; try with_reducible rfl
          try simp only [Act.put, List.getElem_toArray, List.getElem_cons_zero, List.getElem_cons_succ, List.setIfInBounds_toArray, List.set_cons_zero, List.set_cons_succ]
          refine wpAnyH_take (i := 3) (v := ?_) rfl (by kernel_rfl) (by kernel_rfl) (by kernel_rfl) (fun _ _ _ h => h) (Or.inl ⟨by rfl, ?_⟩) (by assumption) ?_
          rotate_left
          · intro w hSw; (try dsimp only at hSw); go_simp; try with_reducible rfl
          try simp only [Act.put, List.getElem_toArray, List.getElem_cons_zero, List.getElem_cons_succ, List.setIfInBounds_toArray, List.set_cons_zero, List.set_cons_succ]
          refine wpAnyH_ready (rs := [4]) (by kernel_rfl) (by simp) ?_
          refine AllReadyH.cons rfl (fun K hK => ?_) AllReadyH.nil
          have xz0 := xz.cell 0 rfl
          have xzz0 := xz.frozen 0
          have xz1 := xz.cell 1 rfl
          have xzz1 := xz.frozen 1
          have xz2 := xz.cell 2 rfl
          have xzz2 := xz.frozen 2
          go_simp
          refine (TS.out _).mono ?_
          rintro e w' ⟨rfl, hw⟩
          rw [hw]
          clear hw w'
          try go_wp2_with fail
          clear xz0 xzz0 xz1 xzz1 xz2 xzz2
          clear hHeld
          refine hK.out _ _ ?_ (fun hHeld => ?_)
          · exact trivial
          clear hK K
          try simp only [Act.put, List.getElem_toArray, List.getElem_cons_zero, List.getElem_cons_succ, List.setIfInBounds_toArray, List.set_cons_zero, List.set_cons_succ]
          refine wpAnyH_ready (rs := [5]) (by kernel_rfl) (by simp) ?_
          refine AllReadyH.cons rfl (fun K hK => ?_) AllReadyH.nil
          have xz0 := xz.cell 0 rfl
          have xzz0 := xz.frozen 0
          have xz1 := xz.cell 1 rfl
          have xzz1 := xz.frozen 1
          have xz2 := xz.cell 2 rfl
          have xzz2 := xz.frozen 2
          go_simp
          refine (ref07low _ (sumN_lt _) _).mono ?_
          rintro e V3 ⟨rfl, hk⟩
          clear xz0 xzz0 xz1 xzz1 xz2 xzz2
          replace hB := below_seq hB hk
          replace xz := xz.seq hk
          clear hk
          have xz0 := xz.cell 0 rfl
          have xzz0 := xz.frozen 0
          have xz1 := xz.cell 1 rfl
          have xzz1 := xz.frozen 1
          have xz2 := xz.cell 2 rfl
          have xzz2 := xz.frozen 2
          try go_wp2_with fail
          clear xz0 xzz0 xz1 xzz1 xz2 xzz2
          clear hHeld
          refine hK.out _ _ ?_ (fun hHeld => ?_)
          · exact trivial
          clear hK K
          try simp only [Act.put, List.getElem_toArray, List.getElem_cons_zero, List.getElem_cons_succ, List.setIfInBounds_toArray, List.set_cons_zero, List.set_cons_succ]
          refine wpAnyH_take (i := 6) (v := ?_) rfl (by kernel_rfl) (by kernel_rfl) (by kernel_rfl) (fun _ _ _ h => h) (Or.inl ⟨by rfl, ?_⟩) (by assumption) ?_
          rotate_left
          · intro w hSw; (try dsimp only at hSw); go_simp; try with_reducible rfl
          try simp only [Act.put, List.getElem_toArray, List.getElem_cons_zero, List.getElem_cons_succ, List.setIfInBounds_toArray, List.set_cons_zero, List.set_cons_succ]
          refine wpAnyH_take (i := 7) (v := ?_) rfl (by kernel_rfl) (by kernel_rfl) (by kernel_rfl) (fun _ _ _ h => h) (Or.inl ⟨by rfl, ?_⟩) (by assumption) ?_
          rotate_left
          · intro w hSw; (try dsimp only at hSw); go_simp; try with_reducible rfl
          try simp only [Act.put, List.getElem_toArray, List.getElem_cons_zero, List.getElem_cons_succ, List.setIfInBounds_toArray, List.set_cons_zero, List.set_cons_succ]
          refine wpAnyH_done (by kernel_rfl) ?_ _
          clear hHeld
          have xz0 := xz.cell 0 rfl
          have xzz0 := xz.frozen 0
          have xz1 := xz.cell 1 rfl
          have xzz1 := xz.frozen 1
          have xz2 := xz.cell 2 rfl
          have xzz2 := xz.frozen 2
          go_wp2
          clear xz0 xzz0 xz1 xzz1 xz2 xzz2
          replace xz : Box 87 (((V3.setCell ⟨W.heap.size, 0, none⟩ (.int .i64 0)).setCell ⟨W.heap.size, 1, none⟩ (.int .u64 0)).setCell ⟨W.heap.size, 2, none⟩ (.int .u64 0)) (W.heap.size) [.int .i64 0, .int .u64 0, .int .u64 0] := (((xz.set 0 (.int .i64 0)).set 1 (.int .u64 0)).set 2 (.int .u64 0))
          replace hB : Below W.heap.size W (((V3.setCell ⟨W.heap.size, 0, none⟩ (.int .i64 0)).setCell ⟨W.heap.size, 1, none⟩ (.int .u64 0)).setCell ⟨W.heap.size, 2, none⟩ (.int .u64 0)) := (((hB.setCell (Nat.le_refl _) _).setCell (Nat.le_refl _) _).setCell (Nat.le_refl _) _)
          generalize (((V3.setCell ⟨W.heap.size, 0, none⟩ (.int .i64 0)).setCell ⟨W.heap.size, 1, none⟩ (.int .u64 0)).setCell ⟨W.heap.size, 2, none⟩ (.int .u64 0)) = V4 at *
          have xz0 := xz.cell 0 rfl
          have xzz0 := xz.frozen 0
          have xz1 := xz.cell 1 rfl
          have xzz1 := xz.frozen 1
          have xz2 := xz.cell 2 rfl
          have xzz2 := xz.frozen 2
          exact bodyPost_ret (v := .tuple #[.agg #[.int .i64 0, .int .u64 0, .int .u64 0], .int .i64 7]) (by simp [results, Tryz.results81, go_sem, xz0, xz1, xz2]) rfl ⟨by rw [HR.out, HE.out]; rfl, hB⟩
      · have b2 : ((s[0].toNat : Int) != 165) = true := by rw [bne_iff_ne]; intro h; exact h2 (UInt8.toNat_inj.1 (by show s[0].toNat = 165; omega))
        have hE : decE (bl s) = 6 := by unfold decE; rw [if_neg (by omega), if_neg hnb, if_pos (by rw [g0]; exact h2)]
        clear h2 hb hnb g0 g1 h1 hlen
        have HE := Lib.hid hE
        have HR := Lib.hid (show decR (bl s) = ⟨0, 0, 0⟩ from if_neg (by rw [hE]; decide))
        clear hE
        have hB : Below W.heap.size W (W.alloc (.cells #[.int .i64 0, .int .u64 0, .int .u64 0] 87)) := ((Below.refl _ _).alloc (Nat.le_refl _) _)
        have xz := (Box.new 87 W [.int .i64 0, .int .u64 0, .int .u64 0])
        go_enter Tryz.func81, Tryz.ntmps81
        go_wp2_with fail
        refine (TB.out _).mono ?_
        rintro e w' ⟨rfl, hw⟩
        rw [hw]
        clear hw w'
        go_wp2
        exact bodyPost_ret (v := .tuple #[.agg #[.int .i64 0, .int .u64 0, .int .u64 0], .int .i64 6]) (by simp [results, Tryz.results81, go_sem]) rfl ⟨by rw [HR.out, HE.out]; rfl, (Below.refl _ _).alloc (Nat.le_refl _) _⟩
  · have hE : decE (bl s) = 1 := by unfold decE; rw [if_pos (by rw [hlen]; exact h1)]
    have b1 : ((s.size : Int) != 24) = true := by rw [bne_iff_ne]; omega
    clear h1 hlen
    have HE := Lib.hid hE
    have HR := Lib.hid (show decR (bl s) = ⟨0, 0, 0⟩ from if_neg (by rw [hE]; decide))
    clear hE
    have hB : Below W.heap.size W (W.alloc (.cells #[.int .i64 0, .int .u64 0, .int .u64 0] 87)) := ((Below.refl _ _).alloc (Nat.le_refl _) _)
    have xz := (Box.new 87 W [.int .i64 0, .int .u64 0, .int .u64 0])
    go_enter Tryz.func81, Tryz.ntmps81
    go_wp2
    exact bodyPost_ret (v := .tuple #[.agg #[.int .i64 0, .int .u64 0, .int .u64 0], .int .i64 1]) (by simp [results, Tryz.results81, go_sem]) rfl ⟨by rw [HR.out, HE.out]; rfl, (Below.refl _ _).alloc (Nat.le_refl _) _⟩

end Go.Proofs.YthmpjoiifglbjaaGreat

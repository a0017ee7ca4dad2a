/- No two legal states are packed alike (StateApart); no condition. -/
import Derived.Test.YtkdadjojahfmeaaStateLaw
import Derived.Deep.RegionHeld3
import Derived.WalkLawsBesides
import Derived.WalkSpells
import Derived.IntWalk
import Derived.Lib.Hide
import Derived.Test.YtkdadjojahfmeaaBox
import Derived.ProofKit
import Derived.OpenShut
import Derived.ChangeMaps5
import Derived.Test.YtkdadjojahfmeaaInts
namespace Go.Proofs.Ytkdadjojahfmeaa.StateApart
open Go.ChangeShapes Go.WideShapes Go.ChangeAt Go.RowKit Go.ChangeMaps
set_option linter.unusedVariables false
set_option linter.unusedSimpArgs false
set_option maxRecDepth 100000 in
set_option maxHeartbeats 4000000 in
theorem apartNe (a1 : Int) (a2 a3 : Bool) (a4 a5 a6 b1 : Int) (b2 b3 : Bool) (b4 b5 b6 : Int) (P Q : Nat) (W : World) (TL : ∀ W : World, Gives Try.prog 11 #[.agg #[.int .i64 a1, .bool a2, .bool a3, .int .i64 a4, .int .i64 a5, .int .i64 a6]] W (.bool true)) (TM : ∀ W : World, Gives Try.prog 11 #[.agg #[.int .i64 b1, .bool b2, .bool b3, .int .i64 b4, .int .i64 b5, .int .i64 b6]] W (.bool true)) (TP : ∀ W : World, Gives Try.prog 13 #[.agg #[.int .i64 a1, .bool a2, .bool a3, .int .i64 a4, .int .i64 a5, .int .i64 a6]] W (.int .u64 (P : Int))) (TQ : ∀ W : World, Gives Try.prog 13 #[.agg #[.int .i64 b1, .bool b2, .bool b3, .int .i64 b4, .int .i64 b5, .int .i64 b6]] W (.int .u64 (Q : Int))) (e : ¬ P = Q) (hd : a1 = b1 → a2 = b2 → a3 = b3 → a4 = b4 → a5 = b5 → a6 = b6 → False) :
    Gives Try.prog 5 #[.agg #[.int .i64 a1, .bool a2, .bool a3, .int .i64 a4, .int .i64 a5, .int .i64 a6], .agg #[.int .i64 b1, .bool b2, .bool b3, .int .i64 b4, .int .i64 b5, .int .i64 b6]] W (.bool true) := by
  have nb : (((P : Nat) : Int) == ((Q : Nat) : Int)) = false := beq_eq_false_iff_ne.2 (fun h => e (Int.ofNat_inj.1 h))
  replace TL := Lib.hid TL
  replace TM := Lib.hid TM
  replace TP := Lib.hid TP
  replace TQ := Lib.hid TQ
  clear e
  by_cases m1 : a1 = b1
  · subst m1
    by_cases m2 : a2 = b2
    · subst m2
      by_cases m3 : a3 = b3
      · subst m3
        by_cases m4 : a4 = b4
        · subst m4
          by_cases m5 : a5 = b5
          · subst m5
            have m6 : ¬ a6 = b6 := fun h => hd rfl rfl rfl rfl rfl h
            clear hd
            have hB : Below W.heap.size W ((W.alloc (.cells #[.int .i64 a1, .bool a2, .bool a3, .int .i64 a4, .int .i64 a5, .int .i64 a6] 23)).alloc (.cells #[.int .i64 a1, .bool a2, .bool a3, .int .i64 a4, .int .i64 a5, .int .i64 b6] 23)) := (((Below.refl _ _).alloc (Nat.le_refl _) _).alloc (by simp) _)
            have xs := ((Box.new 23 W [.int .i64 a1, .bool a2, .bool a3, .int .i64 a4, .int .i64 a5, .int .i64 a6]).alloc (.cells #[.int .i64 a1, .bool a2, .bool a3, .int .i64 a4, .int .i64 a5, .int .i64 b6] 23))
            have xt : Box 23 ((W.alloc (.cells #[.int .i64 a1, .bool a2, .bool a3, .int .i64 a4, .int .i64 a5, .int .i64 a6] 23)).alloc (.cells #[.int .i64 a1, .bool a2, .bool a3, .int .i64 a4, .int .i64 a5, .int .i64 b6] 23)) (W.heap.size + 1) [.int .i64 a1, .bool a2, .bool a3, .int .i64 a4, .int .i64 a5, .int .i64 b6] := by have h := (Box.new 23 (W.alloc (.cells #[.int .i64 a1, .bool a2, .bool a3, .int .i64 a4, .int .i64 a5, .int .i64 a6] 23)) [.int .i64 a1, .bool a2, .bool a3, .int .i64 a4, .int .i64 a5, .int .i64 b6]); rwa [World.size_alloc] at h
            have le_xt : W.heap.size ≤ W.heap.size + 1 := by omega
            go_enter Try.func5, Try.ntmps5
            obtain ⟨xs0, xsz0, xs1, xsz1, xs2, xsz2, xs3, xsz3, xs4, xsz4, xs5, xsz5⟩ := xs.f6
            obtain ⟨xt0, xtz0, xt1, xtz1, xt2, xtz2, xt3, xtz3, xt4, xtz4, xt5, xtz5⟩ := xt.f6
            go_wp2_with fail
            refine (TL.out _).mono ?_
            rintro e V1 ⟨rfl, hk⟩
            clear xs0 xsz0 xs1 xsz1 xs2 xsz2 xs3 xsz3 xs4 xsz4 xs5 xsz5 xt0 xtz0 xt1 xtz1 xt2 xtz2 xt3 xtz3 xt4 xtz4 xt5 xtz5
            replace hB := below_seq hB hk
            replace xs := xs.seq hk
            replace xt := xt.seq hk
            clear hk
            obtain ⟨xs0, xsz0, xs1, xsz1, xs2, xsz2, xs3, xsz3, xs4, xsz4, xs5, xsz5⟩ := xs.f6
            obtain ⟨xt0, xtz0, xt1, xtz1, xt2, xtz2, xt3, xtz3, xt4, xtz4, xt5, xtz5⟩ := xt.f6
            go_wp2_with fail
            refine (TM.out _).mono ?_
            rintro e V2 ⟨rfl, hk⟩
            clear xs0 xsz0 xs1 xsz1 xs2 xsz2 xs3 xsz3 xs4 xsz4 xs5 xsz5 xt0 xtz0 xt1 xtz1 xt2 xtz2 xt3 xtz3 xt4 xtz4 xt5 xtz5
            replace hB := below_seq hB hk
            replace xs := xs.seq hk
            replace xt := xt.seq hk
            clear hk
            obtain ⟨xs0, xsz0, xs1, xsz1, xs2, xsz2, xs3, xsz3, xs4, xsz4, xs5, xsz5⟩ := xs.f6
            obtain ⟨xt0, xtz0, xt1, xtz1, xt2, xtz2, xt3, xtz3, xt4, xtz4, xt5, xtz5⟩ := xt.f6
            go_wp2_with fail
            refine (shown14 _).mono ?_
            rintro e V3 ⟨rfl, hk⟩
            clear xs0 xsz0 xs1 xsz1 xs2 xsz2 xs3 xsz3 xs4 xsz4 xs5 xsz5 xt0 xtz0 xt1 xtz1 xt2 xtz2 xt3 xtz3 xt4 xtz4 xt5 xtz5
            replace hB := below_seq hB hk
            replace xs := xs.seq hk
            replace xt := xt.seq hk
            clear hk
            obtain ⟨xs0, xsz0, xs1, xsz1, xs2, xsz2, xs3, xsz3, xs4, xsz4, xs5, xsz5⟩ := xs.f6
            obtain ⟨xt0, xtz0, xt1, xtz1, xt2, xtz2, xt3, xtz3, xt4, xtz4, xt5, xtz5⟩ := xt.f6
            go_wp2_with fail
            clear xs0 xsz0 xs1 xsz1 xs2 xsz2 xs3 xsz3 xs4 xsz4 xs5 xsz5 xt0 xtz0 xt1 xtz1 xt2 xtz2 xt3 xtz3 xt4 xtz4 xt5 xtz5
            replace hB := hB.drew
            replace xs := xs.drew
            replace xt := xt.drew
            refine wp_region_held_drew (S := fun w' => w'.cell? ⟨W.heap.size, 0, none⟩ = some (.int .i64 a1) ∧ w'.cell? ⟨W.heap.size, 1, none⟩ = some (.bool a2) ∧ w'.cell? ⟨W.heap.size, 2, none⟩ = some (.bool a3) ∧ w'.cell? ⟨W.heap.size, 3, none⟩ = some (.int .i64 a4) ∧ w'.cell? ⟨W.heap.size, 4, none⟩ = some (.int .i64 a5) ∧ w'.cell? ⟨W.heap.size, 5, none⟩ = some (.int .i64 a6) ∧ w'.cell? ⟨W.heap.size + 1, 0, none⟩ = some (.int .i64 a1) ∧ w'.cell? ⟨W.heap.size + 1, 1, none⟩ = some (.bool a2) ∧ w'.cell? ⟨W.heap.size + 1, 2, none⟩ = some (.bool a3) ∧ w'.cell? ⟨W.heap.size + 1, 3, none⟩ = some (.int .i64 a4) ∧ w'.cell? ⟨W.heap.size + 1, 4, none⟩ = some (.int .i64 a5) ∧ w'.cell? ⟨W.heap.size + 1, 5, none⟩ = some (.int .i64 b6)) (by kernel_rfl) ?_ (fun hHeld => ?_)
            · exact ⟨xs.cell 0 rfl, xs.cell 1 rfl, xs.cell 2 rfl, xs.cell 3 rfl, xs.cell 4 rfl, xs.cell 5 rfl, xt.cell 0 rfl, xt.cell 1 rfl, xt.cell 2 rfl, xt.cell 3 rfl, xt.cell 4 rfl, xt.cell 5 rfl⟩
            generalize V3.drew = V4 at *
            refine tk 0 (v := ?_) rfl (Or.inl ⟨by rfl, ?_⟩) ?_; rotate_left
            · intro w hSw; (try dsimp only at hSw); go_simp; try with_reducible rfl
            try simp only [Act.put, l1, l2, l3, l4, l5, l6]
            refine tk 2 (v := ?_) rfl (Or.inl ⟨by rfl, ?_⟩) ?_; rotate_left
            · intro w hSw; (try dsimp only at hSw); go_simp; try with_reducible rfl
            try simp only [Act.put, l1, l2, l3, l4, l5, l6]
            refine tk 5 (v := ?_) rfl (Or.inl ⟨by rfl, ?_⟩) ?_; rotate_left
            · intro w hSw; (try dsimp only at hSw); go_simp; try with_reducible rfl
            try simp only [Act.put, l1, l2, l3, l4, l5, l6]
            refine tk 6 (v := ?_) rfl (Or.inl ⟨by rfl, ?_⟩) ?_; rotate_left
            · intro w hSw; (try dsimp only at hSw); go_simp; try with_reducible rfl
            try simp only [Act.put, l1, l2, l3, l4, l5, l6]
            refine tk 7 (v := ?_) rfl (Or.inl ⟨by rfl, ?_⟩) ?_; rotate_left
            · intro w hSw; (try dsimp only at hSw); go_simp; try with_reducible rfl
            try simp only [Act.put, l1, l2, l3, l4, l5, l6]
            refine wpAnyH_ready (rs := [1]) (by kernel_rfl) (by simp) ?_
            refine AllReadyH.cons rfl (fun K hK => ?_) AllReadyH.nil
            obtain ⟨xs0, xsz0, xs1, xsz1, xs2, xsz2, xs3, xsz3, xs4, xsz4, xs5, xsz5⟩ := xs.f6
            obtain ⟨xt0, xtz0, xt1, xtz1, xt2, xtz2, xt3, xtz3, xt4, xtz4, xt5, xtz5⟩ := xt.f6
            go_simp
            refine (TP.out _).mono ?_
            rintro e V5 ⟨rfl, hk⟩
            clear xs0 xsz0 xs1 xsz1 xs2 xsz2 xs3 xsz3 xs4 xsz4 xs5 xsz5 xt0 xtz0 xt1 xtz1 xt2 xtz2 xt3 xtz3 xt4 xtz4 xt5 xtz5
            replace hB := below_seq hB hk
            replace xs := xs.seq hk
            replace xt := xt.seq hk
            clear hk
            obtain ⟨xs0, xsz0, xs1, xsz1, xs2, xsz2, xs3, xsz3, xs4, xsz4, xs5, xsz5⟩ := xs.f6
            obtain ⟨xt0, xtz0, xt1, xtz1, xt2, xtz2, xt3, xtz3, xt4, xtz4, xt5, xtz5⟩ := xt.f6
            try go_wp2_with fail
            clear xs0 xsz0 xs1 xsz1 xs2 xsz2 xs3 xsz3 xs4 xsz4 xs5 xsz5 xt0 xtz0 xt1 xtz1 xt2 xtz2 xt3 xtz3 xt4 xtz4 xt5 xtz5
            clear hHeld
            refine hK.out _ _ ?_ (fun hHeld => ?_)
            · exact ⟨xs.cell 0 rfl, xs.cell 1 rfl, xs.cell 2 rfl, xs.cell 3 rfl, xs.cell 4 rfl, xs.cell 5 rfl, xt.cell 0 rfl, xt.cell 1 rfl, xt.cell 2 rfl, xt.cell 3 rfl, xt.cell 4 rfl, xt.cell 5 rfl⟩
            clear hK K
            try simp only [Act.put, l1, l2, l3, l4, l5, l6]
            refine wpAnyH_ready (rs := [3]) (by kernel_rfl) (by simp) ?_
            refine AllReadyH.cons rfl (fun K hK => ?_) AllReadyH.nil
            obtain ⟨xs0, xsz0, xs1, xsz1, xs2, xsz2, xs3, xsz3, xs4, xsz4, xs5, xsz5⟩ := xs.f6
            obtain ⟨xt0, xtz0, xt1, xtz1, xt2, xtz2, xt3, xtz3, xt4, xtz4, xt5, xtz5⟩ := xt.f6
            go_simp
            refine (TQ.out _).mono ?_
            rintro e V6 ⟨rfl, hk⟩
            clear xs0 xsz0 xs1 xsz1 xs2 xsz2 xs3 xsz3 xs4 xsz4 xs5 xsz5 xt0 xtz0 xt1 xtz1 xt2 xtz2 xt3 xtz3 xt4 xtz4 xt5 xtz5
            replace hB := below_seq hB hk
            replace xs := xs.seq hk
            replace xt := xt.seq hk
            clear hk
            obtain ⟨xs0, xsz0, xs1, xsz1, xs2, xsz2, xs3, xsz3, xs4, xsz4, xs5, xsz5⟩ := xs.f6
            obtain ⟨xt0, xtz0, xt1, xtz1, xt2, xtz2, xt3, xtz3, xt4, xtz4, xt5, xtz5⟩ := xt.f6
            try go_wp2_with fail
            clear xs0 xsz0 xs1 xsz1 xs2 xsz2 xs3 xsz3 xs4 xsz4 xs5 xsz5 xt0 xtz0 xt1 xtz1 xt2 xtz2 xt3 xtz3 xt4 xtz4 xt5 xtz5
            clear hHeld
            refine hK.out _ _ ?_ (fun hHeld => ?_)
            · exact ⟨xs.cell 0 rfl, xs.cell 1 rfl, xs.cell 2 rfl, xs.cell 3 rfl, xs.cell 4 rfl, xs.cell 5 rfl, xt.cell 0 rfl, xt.cell 1 rfl, xt.cell 2 rfl, xt.cell 3 rfl, xt.cell 4 rfl, xt.cell 5 rfl⟩
            clear hK K
            try simp only [Act.put, l1, l2, l3, l4, l5, l6]
            refine tk 4 (v := ?_) rfl (Or.inl ⟨by rfl, ?_⟩) ?_; rotate_left
            · intro w hSw; (try dsimp only at hSw); go_simp; try with_reducible rfl
            try simp only [Act.put, l1, l2, l3, l4, l5, l6]
            refine tk 8 (v := ?_) rfl (Or.inl ⟨by rfl, ?_⟩) ?_; rotate_left
            · intro w hSw; (try dsimp only at hSw); go_simp; try with_reducible rfl
            try simp only [Act.put, l1, l2, l3, l4, l5, l6]
            refine tk 9 (v := ?_) rfl (Or.inl ⟨by rfl, ?_⟩) ?_; rotate_left
            · intro w hSw; (try dsimp only at hSw); go_simp; try with_reducible rfl
            try simp only [Act.put, l1, l2, l3, l4, l5, l6]
            refine wpAnyH_done (by kernel_rfl) ?_ _
            clear hHeld
            obtain ⟨xs0, xsz0, xs1, xsz1, xs2, xsz2, xs3, xsz3, xs4, xsz4, xs5, xsz5⟩ := xs.f6
            obtain ⟨xt0, xtz0, xt1, xtz1, xt2, xtz2, xt3, xtz3, xt4, xtz4, xt5, xtz5⟩ := xt.f6
            go_wp2
            go_ret
            exact ⟨rfl, hB⟩
          · skip
            clear hd
            have hB : Below W.heap.size W ((W.alloc (.cells #[.int .i64 a1, .bool a2, .bool a3, .int .i64 a4, .int .i64 a5, .int .i64 a6] 23)).alloc (.cells #[.int .i64 a1, .bool a2, .bool a3, .int .i64 a4, .int .i64 b5, .int .i64 b6] 23)) := (((Below.refl _ _).alloc (Nat.le_refl _) _).alloc (by simp) _)
            have xs := ((Box.new 23 W [.int .i64 a1, .bool a2, .bool a3, .int .i64 a4, .int .i64 a5, .int .i64 a6]).alloc (.cells #[.int .i64 a1, .bool a2, .bool a3, .int .i64 a4, .int .i64 b5, .int .i64 b6] 23))
            have xt : Box 23 ((W.alloc (.cells #[.int .i64 a1, .bool a2, .bool a3, .int .i64 a4, .int .i64 a5, .int .i64 a6] 23)).alloc (.cells #[.int .i64 a1, .bool a2, .bool a3, .int .i64 a4, .int .i64 b5, .int .i64 b6] 23)) (W.heap.size + 1) [.int .i64 a1, .bool a2, .bool a3, .int .i64 a4, .int .i64 b5, .int .i64 b6] := by have h := (Box.new 23 (W.alloc (.cells #[.int .i64 a1, .bool a2, .bool a3, .int .i64 a4, .int .i64 a5, .int .i64 a6] 23)) [.int .i64 a1, .bool a2, .bool a3, .int .i64 a4, .int .i64 b5, .int .i64 b6]); rwa [World.size_alloc] at h
            have le_xt : W.heap.size ≤ W.heap.size + 1 := by omega
            go_enter Try.func5, Try.ntmps5
            obtain ⟨xs0, xsz0, xs1, xsz1, xs2, xsz2, xs3, xsz3, xs4, xsz4, xs5, xsz5⟩ := xs.f6
            obtain ⟨xt0, xtz0, xt1, xtz1, xt2, xtz2, xt3, xtz3, xt4, xtz4, xt5, xtz5⟩ := xt.f6
            go_wp2_with fail
            refine (TL.out _).mono ?_
            rintro e V1 ⟨rfl, hk⟩
            clear xs0 xsz0 xs1 xsz1 xs2 xsz2 xs3 xsz3 xs4 xsz4 xs5 xsz5 xt0 xtz0 xt1 xtz1 xt2 xtz2 xt3 xtz3 xt4 xtz4 xt5 xtz5
            replace hB := below_seq hB hk
            replace xs := xs.seq hk
            replace xt := xt.seq hk
            clear hk
            obtain ⟨xs0, xsz0, xs1, xsz1, xs2, xsz2, xs3, xsz3, xs4, xsz4, xs5, xsz5⟩ := xs.f6
            obtain ⟨xt0, xtz0, xt1, xtz1, xt2, xtz2, xt3, xtz3, xt4, xtz4, xt5, xtz5⟩ := xt.f6
            go_wp2_with fail
            refine (TM.out _).mono ?_
            rintro e V2 ⟨rfl, hk⟩
            clear xs0 xsz0 xs1 xsz1 xs2 xsz2 xs3 xsz3 xs4 xsz4 xs5 xsz5 xt0 xtz0 xt1 xtz1 xt2 xtz2 xt3 xtz3 xt4 xtz4 xt5 xtz5
            replace hB := below_seq hB hk
            replace xs := xs.seq hk
            replace xt := xt.seq hk
            clear hk
            obtain ⟨xs0, xsz0, xs1, xsz1, xs2, xsz2, xs3, xsz3, xs4, xsz4, xs5, xsz5⟩ := xs.f6
            obtain ⟨xt0, xtz0, xt1, xtz1, xt2, xtz2, xt3, xtz3, xt4, xtz4, xt5, xtz5⟩ := xt.f6
            go_wp2_with fail
            refine (shown14 _).mono ?_
            rintro e V3 ⟨rfl, hk⟩
            clear xs0 xsz0 xs1 xsz1 xs2 xsz2 xs3 xsz3 xs4 xsz4 xs5 xsz5 xt0 xtz0 xt1 xtz1 xt2 xtz2 xt3 xtz3 xt4 xtz4 xt5 xtz5
            replace hB := below_seq hB hk
            replace xs := xs.seq hk
            replace xt := xt.seq hk
            clear hk
            obtain ⟨xs0, xsz0, xs1, xsz1, xs2, xsz2, xs3, xsz3, xs4, xsz4, xs5, xsz5⟩ := xs.f6
            obtain ⟨xt0, xtz0, xt1, xtz1, xt2, xtz2, xt3, xtz3, xt4, xtz4, xt5, xtz5⟩ := xt.f6
            go_wp2_with fail
            clear xs0 xsz0 xs1 xsz1 xs2 xsz2 xs3 xsz3 xs4 xsz4 xs5 xsz5 xt0 xtz0 xt1 xtz1 xt2 xtz2 xt3 xtz3 xt4 xtz4 xt5 xtz5
            replace hB := hB.drew
            replace xs := xs.drew
            replace xt := xt.drew
            refine wp_region_held_drew (S := fun w' => w'.cell? ⟨W.heap.size, 0, none⟩ = some (.int .i64 a1) ∧ w'.cell? ⟨W.heap.size, 1, none⟩ = some (.bool a2) ∧ w'.cell? ⟨W.heap.size, 2, none⟩ = some (.bool a3) ∧ w'.cell? ⟨W.heap.size, 3, none⟩ = some (.int .i64 a4) ∧ w'.cell? ⟨W.heap.size, 4, none⟩ = some (.int .i64 a5) ∧ w'.cell? ⟨W.heap.size, 5, none⟩ = some (.int .i64 a6) ∧ w'.cell? ⟨W.heap.size + 1, 0, none⟩ = some (.int .i64 a1) ∧ w'.cell? ⟨W.heap.size + 1, 1, none⟩ = some (.bool a2) ∧ w'.cell? ⟨W.heap.size + 1, 2, none⟩ = some (.bool a3) ∧ w'.cell? ⟨W.heap.size + 1, 3, none⟩ = some (.int .i64 a4) ∧ w'.cell? ⟨W.heap.size + 1, 4, none⟩ = some (.int .i64 b5) ∧ w'.cell? ⟨W.heap.size + 1, 5, none⟩ = some (.int .i64 b6)) (by kernel_rfl) ?_ (fun hHeld => ?_)
            · exact ⟨xs.cell 0 rfl, xs.cell 1 rfl, xs.cell 2 rfl, xs.cell 3 rfl, xs.cell 4 rfl, xs.cell 5 rfl, xt.cell 0 rfl, xt.cell 1 rfl, xt.cell 2 rfl, xt.cell 3 rfl, xt.cell 4 rfl, xt.cell 5 rfl⟩
            generalize V3.drew = V4 at *
            refine tk 0 (v := ?_) rfl (Or.inl ⟨by rfl, ?_⟩) ?_; rotate_left
            · intro w hSw; (try dsimp only at hSw); go_simp; try with_reducible rfl
            try simp only [Act.put, l1, l2, l3, l4, l5, l6]
            refine tk 2 (v := ?_) rfl (Or.inl ⟨by rfl, ?_⟩) ?_; rotate_left
            · intro w hSw; (try dsimp only at hSw); go_simp; try with_reducible rfl
            try simp only [Act.put, l1, l2, l3, l4, l5, l6]
            refine tk 5 (v := ?_) rfl (Or.inl ⟨by rfl, ?_⟩) ?_; rotate_left
            · intro w hSw; (try dsimp only at hSw); go_simp; try with_reducible rfl
            try simp only [Act.put, l1, l2, l3, l4, l5, l6]
            refine tk 6 (v := ?_) rfl (Or.inl ⟨by rfl, ?_⟩) ?_; rotate_left
            · intro w hSw; (try dsimp only at hSw); go_simp; try with_reducible rfl
            try simp only [Act.put, l1, l2, l3, l4, l5, l6]
            refine tk 7 (v := ?_) rfl (Or.inl ⟨by rfl, ?_⟩) ?_; rotate_left
            · intro w hSw; (try dsimp only at hSw); go_simp; try with_reducible rfl
            try simp only [Act.put, l1, l2, l3, l4, l5, l6]
            refine wpAnyH_ready (rs := [1]) (by kernel_rfl) (by simp) ?_
            refine AllReadyH.cons rfl (fun K hK => ?_) AllReadyH.nil
            obtain ⟨xs0, xsz0, xs1, xsz1, xs2, xsz2, xs3, xsz3, xs4, xsz4, xs5, xsz5⟩ := xs.f6
            obtain ⟨xt0, xtz0, xt1, xtz1, xt2, xtz2, xt3, xtz3, xt4, xtz4, xt5, xtz5⟩ := xt.f6
            go_simp
            refine (TP.out _).mono ?_
            rintro e V5 ⟨rfl, hk⟩
            clear xs0 xsz0 xs1 xsz1 xs2 xsz2 xs3 xsz3 xs4 xsz4 xs5 xsz5 xt0 xtz0 xt1 xtz1 xt2 xtz2 xt3 xtz3 xt4 xtz4 xt5 xtz5
            replace hB := below_seq hB hk
            replace xs := xs.seq hk
            replace xt := xt.seq hk
            clear hk
            obtain ⟨xs0, xsz0, xs1, xsz1, xs2, xsz2, xs3, xsz3, xs4, xsz4, xs5, xsz5⟩ := xs.f6
            obtain ⟨xt0, xtz0, xt1, xtz1, xt2, xtz2, xt3, xtz3, xt4, xtz4, xt5, xtz5⟩ := xt.f6
            try go_wp2_with fail
            clear xs0 xsz0 xs1 xsz1 xs2 xsz2 xs3 xsz3 xs4 xsz4 xs5 xsz5 xt0 xtz0 xt1 xtz1 xt2 xtz2 xt3 xtz3 xt4 xtz4 xt5 xtz5
            clear hHeld
            refine hK.out _ _ ?_ (fun hHeld => ?_)
            · exact ⟨xs.cell 0 rfl, xs.cell 1 rfl, xs.cell 2 rfl, xs.cell 3 rfl, xs.cell 4 rfl, xs.cell 5 rfl, xt.cell 0 rfl, xt.cell 1 rfl, xt.cell 2 rfl, xt.cell 3 rfl, xt.cell 4 rfl, xt.cell 5 rfl⟩
            clear hK K
            try simp only [Act.put, l1, l2, l3, l4, l5, l6]
            refine wpAnyH_ready (rs := [3]) (by kernel_rfl) (by simp) ?_
            refine AllReadyH.cons rfl (fun K hK => ?_) AllReadyH.nil
            obtain ⟨xs0, xsz0, xs1, xsz1, xs2, xsz2, xs3, xsz3, xs4, xsz4, xs5, xsz5⟩ := xs.f6
            obtain ⟨xt0, xtz0, xt1, xtz1, xt2, xtz2, xt3, xtz3, xt4, xtz4, xt5, xtz5⟩ := xt.f6
            go_simp
            refine (TQ.out _).mono ?_
            rintro e V6 ⟨rfl, hk⟩
            clear xs0 xsz0 xs1 xsz1 xs2 xsz2 xs3 xsz3 xs4 xsz4 xs5 xsz5 xt0 xtz0 xt1 xtz1 xt2 xtz2 xt3 xtz3 xt4 xtz4 xt5 xtz5
            replace hB := below_seq hB hk
            replace xs := xs.seq hk
            replace xt := xt.seq hk
            clear hk
            obtain ⟨xs0, xsz0, xs1, xsz1, xs2, xsz2, xs3, xsz3, xs4, xsz4, xs5, xsz5⟩ := xs.f6
            obtain ⟨xt0, xtz0, xt1, xtz1, xt2, xtz2, xt3, xtz3, xt4, xtz4, xt5, xtz5⟩ := xt.f6
            try go_wp2_with fail
            clear xs0 xsz0 xs1 xsz1 xs2 xsz2 xs3 xsz3 xs4 xsz4 xs5 xsz5 xt0 xtz0 xt1 xtz1 xt2 xtz2 xt3 xtz3 xt4 xtz4 xt5 xtz5
            clear hHeld
            refine hK.out _ _ ?_ (fun hHeld => ?_)
            · exact ⟨xs.cell 0 rfl, xs.cell 1 rfl, xs.cell 2 rfl, xs.cell 3 rfl, xs.cell 4 rfl, xs.cell 5 rfl, xt.cell 0 rfl, xt.cell 1 rfl, xt.cell 2 rfl, xt.cell 3 rfl, xt.cell 4 rfl, xt.cell 5 rfl⟩
            clear hK K
            try simp only [Act.put, l1, l2, l3, l4, l5, l6]
            refine tk 4 (v := ?_) rfl (Or.inl ⟨by rfl, ?_⟩) ?_; rotate_left
            · intro w hSw; (try dsimp only at hSw); go_simp; try with_reducible rfl
            try simp only [Act.put, l1, l2, l3, l4, l5, l6]
            refine tk 8 (v := ?_) rfl (Or.inl ⟨by rfl, ?_⟩) ?_; rotate_left
            · intro w hSw; (try dsimp only at hSw); go_simp; try with_reducible rfl
            try simp only [Act.put, l1, l2, l3, l4, l5, l6]
            refine tk 9 (v := ?_) rfl (Or.inl ⟨by rfl, ?_⟩) ?_; rotate_left
            · intro w hSw; (try dsimp only at hSw); go_simp; try with_reducible rfl
            try simp only [Act.put, l1, l2, l3, l4, l5, l6]
            refine wpAnyH_done (by kernel_rfl) ?_ _
            clear hHeld
            obtain ⟨xs0, xsz0, xs1, xsz1, xs2, xsz2, xs3, xsz3, xs4, xsz4, xs5, xsz5⟩ := xs.f6
            obtain ⟨xt0, xtz0, xt1, xtz1, xt2, xtz2, xt3, xtz3, xt4, xtz4, xt5, xtz5⟩ := xt.f6
            go_wp2
            go_ret
            exact ⟨rfl, hB⟩
        · skip
          clear hd
          have hB : Below W.heap.size W ((W.alloc (.cells #[.int .i64 a1, .bool a2, .bool a3, .int .i64 a4, .int .i64 a5, .int .i64 a6] 23)).alloc (.cells #[.int .i64 a1, .bool a2, .bool a3, .int .i64 b4, .int .i64 b5, .int .i64 b6] 23)) := (((Below.refl _ _).alloc (Nat.le_refl _) _).alloc (by simp) _)
          have xs := ((Box.new 23 W [.int .i64 a1, .bool a2, .bool a3, .int .i64 a4, .int .i64 a5, .int .i64 a6]).alloc (.cells #[.int .i64 a1, .bool a2, .bool a3, .int .i64 b4, .int .i64 b5, .int .i64 b6] 23))
          have xt : Box 23 ((W.alloc (.cells #[.int .i64 a1, .bool a2, .bool a3, .int .i64 a4, .int .i64 a5, .int .i64 a6] 23)).alloc (.cells #[.int .i64 a1, .bool a2, .bool a3, .int .i64 b4, .int .i64 b5, .int .i64 b6] 23)) (W.heap.size + 1) [.int .i64 a1, .bool a2, .bool a3, .int .i64 b4, .int .i64 b5, .int .i64 b6] := by have h := (Box.new 23 (W.alloc (.cells #[.int .i64 a1, .bool a2, .bool a3, .int .i64 a4, .int .i64 a5, .int .i64 a6] 23)) [.int .i64 a1, .bool a2, .bool a3, .int .i64 b4, .int .i64 b5, .int .i64 b6]); rwa [World.size_alloc] at h
          have le_xt : W.heap.size ≤ W.heap.size + 1 := by omega
          go_enter Try.func5, Try.ntmps5
          obtain ⟨xs0, xsz0, xs1, xsz1, xs2, xsz2, xs3, xsz3, xs4, xsz4, xs5, xsz5⟩ := xs.f6
          obtain ⟨xt0, xtz0, xt1, xtz1, xt2, xtz2, xt3, xtz3, xt4, xtz4, xt5, xtz5⟩ := xt.f6
          go_wp2_with fail
          refine (TL.out _).mono ?_
          rintro e V1 ⟨rfl, hk⟩
          clear xs0 xsz0 xs1 xsz1 xs2 xsz2 xs3 xsz3 xs4 xsz4 xs5 xsz5 xt0 xtz0 xt1 xtz1 xt2 xtz2 xt3 xtz3 xt4 xtz4 xt5 xtz5
          replace hB := below_seq hB hk
          replace xs := xs.seq hk
          replace xt := xt.seq hk
          clear hk
          obtain ⟨xs0, xsz0, xs1, xsz1, xs2, xsz2, xs3, xsz3, xs4, xsz4, xs5, xsz5⟩ := xs.f6
          obtain ⟨xt0, xtz0, xt1, xtz1, xt2, xtz2, xt3, xtz3, xt4, xtz4, xt5, xtz5⟩ := xt.f6
          go_wp2_with fail
          refine (TM.out _).mono ?_
          rintro e V2 ⟨rfl, hk⟩
          clear xs0 xsz0 xs1 xsz1 xs2 xsz2 xs3 xsz3 xs4 xsz4 xs5 xsz5 xt0 xtz0 xt1 xtz1 xt2 xtz2 xt3 xtz3 xt4 xtz4 xt5 xtz5
          replace hB := below_seq hB hk
          replace xs := xs.seq hk
          replace xt := xt.seq hk
          clear hk
          obtain ⟨xs0, xsz0, xs1, xsz1, xs2, xsz2, xs3, xsz3, xs4, xsz4, xs5, xsz5⟩ := xs.f6
          obtain ⟨xt0, xtz0, xt1, xtz1, xt2, xtz2, xt3, xtz3, xt4, xtz4, xt5, xtz5⟩ := xt.f6
          go_wp2_with fail
          refine (shown14 _).mono ?_
          rintro e V3 ⟨rfl, hk⟩
          clear xs0 xsz0 xs1 xsz1 xs2 xsz2 xs3 xsz3 xs4 xsz4 xs5 xsz5 xt0 xtz0 xt1 xtz1 xt2 xtz2 xt3 xtz3 xt4 xtz4 xt5 xtz5
          replace hB := below_seq hB hk
          replace xs := xs.seq hk
          replace xt := xt.seq hk
          clear hk
          obtain ⟨xs0, xsz0, xs1, xsz1, xs2, xsz2, xs3, xsz3, xs4, xsz4, xs5, xsz5⟩ := xs.f6
          obtain ⟨xt0, xtz0, xt1, xtz1, xt2, xtz2, xt3, xtz3, xt4, xtz4, xt5, xtz5⟩ := xt.f6
          go_wp2_with fail
          clear xs0 xsz0 xs1 xsz1 xs2 xsz2 xs3 xsz3 xs4 xsz4 xs5 xsz5 xt0 xtz0 xt1 xtz1 xt2 xtz2 xt3 xtz3 xt4 xtz4 xt5 xtz5
          replace hB := hB.drew
          replace xs := xs.drew
          replace xt := xt.drew
          refine wp_region_held_drew (S := fun w' => w'.cell? ⟨W.heap.size, 0, none⟩ = some (.int .i64 a1) ∧ w'.cell? ⟨W.heap.size, 1, none⟩ = some (.bool a2) ∧ w'.cell? ⟨W.heap.size, 2, none⟩ = some (.bool a3) ∧ w'.cell? ⟨W.heap.size, 3, none⟩ = some (.int .i64 a4) ∧ w'.cell? ⟨W.heap.size, 4, none⟩ = some (.int .i64 a5) ∧ w'.cell? ⟨W.heap.size, 5, none⟩ = some (.int .i64 a6) ∧ w'.cell? ⟨W.heap.size + 1, 0, none⟩ = some (.int .i64 a1) ∧ w'.cell? ⟨W.heap.size + 1, 1, none⟩ = some (.bool a2) ∧ w'.cell? ⟨W.heap.size + 1, 2, none⟩ = some (.bool a3) ∧ w'.cell? ⟨W.heap.size + 1, 3, none⟩ = some (.int .i64 b4) ∧ w'.cell? ⟨W.heap.size + 1, 4, none⟩ = some (.int .i64 b5) ∧ w'.cell? ⟨W.heap.size + 1, 5, none⟩ = some (.int .i64 b6)) (by kernel_rfl) ?_ (fun hHeld => ?_)
          · exact ⟨xs.cell 0 rfl, xs.cell 1 rfl, xs.cell 2 rfl, xs.cell 3 rfl, xs.cell 4 rfl, xs.cell 5 rfl, xt.cell 0 rfl, xt.cell 1 rfl, xt.cell 2 rfl, xt.cell 3 rfl, xt.cell 4 rfl, xt.cell 5 rfl⟩
          generalize V3.drew = V4 at *
          refine tk 0 (v := ?_) rfl (Or.inl ⟨by rfl, ?_⟩) ?_; rotate_left
          · intro w hSw; (try dsimp only at hSw); go_simp; try with_reducible rfl
          try simp only [Act.put, l1, l2, l3, l4, l5, l6]
          refine tk 2 (v := ?_) rfl (Or.inl ⟨by rfl, ?_⟩) ?_; rotate_left
          · intro w hSw; (try dsimp only at hSw); go_simp; try with_reducible rfl
          try simp only [Act.put, l1, l2, l3, l4, l5, l6]
          refine tk 5 (v := ?_) rfl (Or.inl ⟨by rfl, ?_⟩) ?_; rotate_left
          · intro w hSw; (try dsimp only at hSw); go_simp; try with_reducible rfl
          try simp only [Act.put, l1, l2, l3, l4, l5, l6]
          refine tk 6 (v := ?_) rfl (Or.inl ⟨by rfl, ?_⟩) ?_; rotate_left
          · intro w hSw; (try dsimp only at hSw); go_simp; try with_reducible rfl
          try simp only [Act.put, l1, l2, l3, l4, l5, l6]
          refine tk 7 (v := ?_) rfl (Or.inl ⟨by rfl, ?_⟩) ?_; rotate_left
          · intro w hSw; (try dsimp only at hSw); go_simp; try with_reducible rfl
          try simp only [Act.put, l1, l2, l3, l4, l5, l6]
          refine wpAnyH_ready (rs := [1]) (by kernel_rfl) (by simp) ?_
          refine AllReadyH.cons rfl (fun K hK => ?_) AllReadyH.nil
          obtain ⟨xs0, xsz0, xs1, xsz1, xs2, xsz2, xs3, xsz3, xs4, xsz4, xs5, xsz5⟩ := xs.f6
          obtain ⟨xt0, xtz0, xt1, xtz1, xt2, xtz2, xt3, xtz3, xt4, xtz4, xt5, xtz5⟩ := xt.f6
          go_simp
          refine (TP.out _).mono ?_
          rintro e V5 ⟨rfl, hk⟩
          clear xs0 xsz0 xs1 xsz1 xs2 xsz2 xs3 xsz3 xs4 xsz4 xs5 xsz5 xt0 xtz0 xt1 xtz1 xt2 xtz2 xt3 xtz3 xt4 xtz4 xt5 xtz5
          replace hB := below_seq hB hk
          replace xs := xs.seq hk
          replace xt := xt.seq hk
          clear hk
          obtain ⟨xs0, xsz0, xs1, xsz1, xs2, xsz2, xs3, xsz3, xs4, xsz4, xs5, xsz5⟩ := xs.f6
          obtain ⟨xt0, xtz0, xt1, xtz1, xt2, xtz2, xt3, xtz3, xt4, xtz4, xt5, xtz5⟩ := xt.f6
          try go_wp2_with fail
          clear xs0 xsz0 xs1 xsz1 xs2 xsz2 xs3 xsz3 xs4 xsz4 xs5 xsz5 xt0 xtz0 xt1 xtz1 xt2 xtz2 xt3 xtz3 xt4 xtz4 xt5 xtz5
          clear hHeld
          refine hK.out _ _ ?_ (fun hHeld => ?_)
          · exact ⟨xs.cell 0 rfl, xs.cell 1 rfl, xs.cell 2 rfl, xs.cell 3 rfl, xs.cell 4 rfl, xs.cell 5 rfl, xt.cell 0 rfl, xt.cell 1 rfl, xt.cell 2 rfl, xt.cell 3 rfl, xt.cell 4 rfl, xt.cell 5 rfl⟩
          clear hK K
          try simp only [Act.put, l1, l2, l3, l4, l5, l6]
          refine wpAnyH_ready (rs := [3]) (by kernel_rfl) (by simp) ?_
          refine AllReadyH.cons rfl (fun K hK => ?_) AllReadyH.nil
          obtain ⟨xs0, xsz0, xs1, xsz1, xs2, xsz2, xs3, xsz3, xs4, xsz4, xs5, xsz5⟩ := xs.f6
          obtain ⟨xt0, xtz0, xt1, xtz1, xt2, xtz2, xt3, xtz3, xt4, xtz4, xt5, xtz5⟩ := xt.f6
          go_simp
          refine (TQ.out _).mono ?_
          rintro e V6 ⟨rfl, hk⟩
          clear xs0 xsz0 xs1 xsz1 xs2 xsz2 xs3 xsz3 xs4 xsz4 xs5 xsz5 xt0 xtz0 xt1 xtz1 xt2 xtz2 xt3 xtz3 xt4 xtz4 xt5 xtz5
          replace hB := below_seq hB hk
          replace xs := xs.seq hk
          replace xt := xt.seq hk
          clear hk
          obtain ⟨xs0, xsz0, xs1, xsz1, xs2, xsz2, xs3, xsz3, xs4, xsz4, xs5, xsz5⟩ := xs.f6
          obtain ⟨xt0, xtz0, xt1, xtz1, xt2, xtz2, xt3, xtz3, xt4, xtz4, xt5, xtz5⟩ := xt.f6
          try go_wp2_with fail
          clear xs0 xsz0 xs1 xsz1 xs2 xsz2 xs3 xsz3 xs4 xsz4 xs5 xsz5 xt0 xtz0 xt1 xtz1 xt2 xtz2 xt3 xtz3 xt4 xtz4 xt5 xtz5
          clear hHeld
          refine hK.out _ _ ?_ (fun hHeld => ?_)
          · exact ⟨xs.cell 0 rfl, xs.cell 1 rfl, xs.cell 2 rfl, xs.cell 3 rfl, xs.cell 4 rfl, xs.cell 5 rfl, xt.cell 0 rfl, xt.cell 1 rfl, xt.cell 2 rfl, xt.cell 3 rfl, xt.cell 4 rfl, xt.cell 5 rfl⟩
          clear hK K
          try simp only [Act.put, l1, l2, l3, l4, l5, l6]
          refine tk 4 (v := ?_) rfl (Or.inl ⟨by rfl, ?_⟩) ?_; rotate_left
          · intro w hSw; (try dsimp only at hSw); go_simp; try with_reducible rfl
          try simp only [Act.put, l1, l2, l3, l4, l5, l6]
          refine tk 8 (v := ?_) rfl (Or.inl ⟨by rfl, ?_⟩) ?_; rotate_left
          · intro w hSw; (try dsimp only at hSw); go_simp; try with_reducible rfl
          try simp only [Act.put, l1, l2, l3, l4, l5, l6]
          refine tk 9 (v := ?_) rfl (Or.inl ⟨by rfl, ?_⟩) ?_; rotate_left
          · intro w hSw; (try dsimp only at hSw); go_simp; try with_reducible rfl
          try simp only [Act.put, l1, l2, l3, l4, l5, l6]
          refine wpAnyH_done (by kernel_rfl) ?_ _
          clear hHeld
          obtain ⟨xs0, xsz0, xs1, xsz1, xs2, xsz2, xs3, xsz3, xs4, xsz4, xs5, xsz5⟩ := xs.f6
          obtain ⟨xt0, xtz0, xt1, xtz1, xt2, xtz2, xt3, xtz3, xt4, xtz4, xt5, xtz5⟩ := xt.f6
          go_wp2
          go_ret
          exact ⟨rfl, hB⟩
      · skip
        clear hd
        have hB : Below W.heap.size W ((W.alloc (.cells #[.int .i64 a1, .bool a2, .bool a3, .int .i64 a4, .int .i64 a5, .int .i64 a6] 23)).alloc (.cells #[.int .i64 a1, .bool a2, .bool b3, .int .i64 b4, .int .i64 b5, .int .i64 b6] 23)) := (((Below.refl _ _).alloc (Nat.le_refl _) _).alloc (by simp) _)
        have xs := ((Box.new 23 W [.int .i64 a1, .bool a2, .bool a3, .int .i64 a4, .int .i64 a5, .int .i64 a6]).alloc (.cells #[.int .i64 a1, .bool a2, .bool b3, .int .i64 b4, .int .i64 b5, .int .i64 b6] 23))
        have xt : Box 23 ((W.alloc (.cells #[.int .i64 a1, .bool a2, .bool a3, .int .i64 a4, .int .i64 a5, .int .i64 a6] 23)).alloc (.cells #[.int .i64 a1, .bool a2, .bool b3, .int .i64 b4, .int .i64 b5, .int .i64 b6] 23)) (W.heap.size + 1) [.int .i64 a1, .bool a2, .bool b3, .int .i64 b4, .int .i64 b5, .int .i64 b6] := by have h := (Box.new 23 (W.alloc (.cells #[.int .i64 a1, .bool a2, .bool a3, .int .i64 a4, .int .i64 a5, .int .i64 a6] 23)) [.int .i64 a1, .bool a2, .bool b3, .int .i64 b4, .int .i64 b5, .int .i64 b6]); rwa [World.size_alloc] at h
        have le_xt : W.heap.size ≤ W.heap.size + 1 := by omega
        go_enter Try.func5, Try.ntmps5
        obtain ⟨xs0, xsz0, xs1, xsz1, xs2, xsz2, xs3, xsz3, xs4, xsz4, xs5, xsz5⟩ := xs.f6
        obtain ⟨xt0, xtz0, xt1, xtz1, xt2, xtz2, xt3, xtz3, xt4, xtz4, xt5, xtz5⟩ := xt.f6
        go_wp2_with fail
        refine (TL.out _).mono ?_
        rintro e V1 ⟨rfl, hk⟩
        clear xs0 xsz0 xs1 xsz1 xs2 xsz2 xs3 xsz3 xs4 xsz4 xs5 xsz5 xt0 xtz0 xt1 xtz1 xt2 xtz2 xt3 xtz3 xt4 xtz4 xt5 xtz5
        replace hB := below_seq hB hk
        replace xs := xs.seq hk
        replace xt := xt.seq hk
        clear hk
        obtain ⟨xs0, xsz0, xs1, xsz1, xs2, xsz2, xs3, xsz3, xs4, xsz4, xs5, xsz5⟩ := xs.f6
        obtain ⟨xt0, xtz0, xt1, xtz1, xt2, xtz2, xt3, xtz3, xt4, xtz4, xt5, xtz5⟩ := xt.f6
        go_wp2_with fail
        refine (TM.out _).mono ?_
        rintro e V2 ⟨rfl, hk⟩
        clear xs0 xsz0 xs1 xsz1 xs2 xsz2 xs3 xsz3 xs4 xsz4 xs5 xsz5 xt0 xtz0 xt1 xtz1 xt2 xtz2 xt3 xtz3 xt4 xtz4 xt5 xtz5
        replace hB := below_seq hB hk
        replace xs := xs.seq hk
        replace xt := xt.seq hk
        clear hk
        obtain ⟨xs0, xsz0, xs1, xsz1, xs2, xsz2, xs3, xsz3, xs4, xsz4, xs5, xsz5⟩ := xs.f6
        obtain ⟨xt0, xtz0, xt1, xtz1, xt2, xtz2, xt3, xtz3, xt4, xtz4, xt5, xtz5⟩ := xt.f6
        go_wp2_with fail
        refine (shown14 _).mono ?_
        rintro e V3 ⟨rfl, hk⟩
        clear xs0 xsz0 xs1 xsz1 xs2 xsz2 xs3 xsz3 xs4 xsz4 xs5 xsz5 xt0 xtz0 xt1 xtz1 xt2 xtz2 xt3 xtz3 xt4 xtz4 xt5 xtz5
        replace hB := below_seq hB hk
        replace xs := xs.seq hk
        replace xt := xt.seq hk
        clear hk
        obtain ⟨xs0, xsz0, xs1, xsz1, xs2, xsz2, xs3, xsz3, xs4, xsz4, xs5, xsz5⟩ := xs.f6
        obtain ⟨xt0, xtz0, xt1, xtz1, xt2, xtz2, xt3, xtz3, xt4, xtz4, xt5, xtz5⟩ := xt.f6
        go_wp2_with fail
        clear xs0 xsz0 xs1 xsz1 xs2 xsz2 xs3 xsz3 xs4 xsz4 xs5 xsz5 xt0 xtz0 xt1 xtz1 xt2 xtz2 xt3 xtz3 xt4 xtz4 xt5 xtz5
        replace hB := hB.drew
        replace xs := xs.drew
        replace xt := xt.drew
        refine wp_region_held_drew (S := fun w' => w'.cell? ⟨W.heap.size, 0, none⟩ = some (.int .i64 a1) ∧ w'.cell? ⟨W.heap.size, 1, none⟩ = some (.bool a2) ∧ w'.cell? ⟨W.heap.size, 2, none⟩ = some (.bool a3) ∧ w'.cell? ⟨W.heap.size, 3, none⟩ = some (.int .i64 a4) ∧ w'.cell? ⟨W.heap.size, 4, none⟩ = some (.int .i64 a5) ∧ w'.cell? ⟨W.heap.size, 5, none⟩ = some (.int .i64 a6) ∧ w'.cell? ⟨W.heap.size + 1, 0, none⟩ = some (.int .i64 a1) ∧ w'.cell? ⟨W.heap.size + 1, 1, none⟩ = some (.bool a2) ∧ w'.cell? ⟨W.heap.size + 1, 2, none⟩ = some (.bool b3) ∧ w'.cell? ⟨W.heap.size + 1, 3, none⟩ = some (.int .i64 b4) ∧ w'.cell? ⟨W.heap.size + 1, 4, none⟩ = some (.int .i64 b5) ∧ w'.cell? ⟨W.heap.size + 1, 5, none⟩ = some (.int .i64 b6)) (by kernel_rfl) ?_ (fun hHeld => ?_)
        · exact ⟨xs.cell 0 rfl, xs.cell 1 rfl, xs.cell 2 rfl, xs.cell 3 rfl, xs.cell 4 rfl, xs.cell 5 rfl, xt.cell 0 rfl, xt.cell 1 rfl, xt.cell 2 rfl, xt.cell 3 rfl, xt.cell 4 rfl, xt.cell 5 rfl⟩
        generalize V3.drew = V4 at *
        refine tk 0 (v := ?_) rfl (Or.inl ⟨by rfl, ?_⟩) ?_; rotate_left
        · intro w hSw; (try dsimp only at hSw); go_simp; try with_reducible rfl
        try simp only [Act.put, l1, l2, l3, l4, l5, l6]
        refine tk 2 (v := ?_) rfl (Or.inl ⟨by rfl, ?_⟩) ?_; rotate_left
        · intro w hSw; (try dsimp only at hSw); go_simp; try with_reducible rfl
        try simp only [Act.put, l1, l2, l3, l4, l5, l6]
        refine tk 5 (v := ?_) rfl (Or.inl ⟨by rfl, ?_⟩) ?_; rotate_left
        · intro w hSw; (try dsimp only at hSw); go_simp; try with_reducible rfl
        try simp only [Act.put, l1, l2, l3, l4, l5, l6]
        refine tk 6 (v := ?_) rfl (Or.inl ⟨by rfl, ?_⟩) ?_; rotate_left
        · intro w hSw; (try dsimp only at hSw); go_simp; try with_reducible rfl
        try simp only [Act.put, l1, l2, l3, l4, l5, l6]
        refine tk 7 (v := ?_) rfl (Or.inl ⟨by rfl, ?_⟩) ?_; rotate_left
        · intro w hSw; (try dsimp only at hSw); go_simp; try with_reducible rfl
        try simp only [Act.put, l1, l2, l3, l4, l5, l6]
        refine wpAnyH_ready (rs := [1]) (by kernel_rfl) (by simp) ?_
        refine AllReadyH.cons rfl (fun K hK => ?_) AllReadyH.nil
        obtain ⟨xs0, xsz0, xs1, xsz1, xs2, xsz2, xs3, xsz3, xs4, xsz4, xs5, xsz5⟩ := xs.f6
        obtain ⟨xt0, xtz0, xt1, xtz1, xt2, xtz2, xt3, xtz3, xt4, xtz4, xt5, xtz5⟩ := xt.f6
        go_simp
        refine (TP.out _).mono ?_
        rintro e V5 ⟨rfl, hk⟩
        clear xs0 xsz0 xs1 xsz1 xs2 xsz2 xs3 xsz3 xs4 xsz4 xs5 xsz5 xt0 xtz0 xt1 xtz1 xt2 xtz2 xt3 xtz3 xt4 xtz4 xt5 xtz5
        replace hB := below_seq hB hk
        replace xs := xs.seq hk
        replace xt := xt.seq hk
        clear hk
        obtain ⟨xs0, xsz0, xs1, xsz1, xs2, xsz2, xs3, xsz3, xs4, xsz4, xs5, xsz5⟩ := xs.f6
        obtain ⟨xt0, xtz0, xt1, xtz1, xt2, xtz2, xt3, xtz3, xt4, xtz4, xt5, xtz5⟩ := xt.f6
        try go_wp2_with fail
        clear xs0 xsz0 xs1 xsz1 xs2 xsz2 xs3 xsz3 xs4 xsz4 xs5 xsz5 xt0 xtz0 xt1 xtz1 xt2 xtz2 xt3 xtz3 xt4 xtz4 xt5 xtz5
        clear hHeld
        refine hK.out _ _ ?_ (fun hHeld => ?_)
        · exact ⟨xs.cell 0 rfl, xs.cell 1 rfl, xs.cell 2 rfl, xs.cell 3 rfl, xs.cell 4 rfl, xs.cell 5 rfl, xt.cell 0 rfl, xt.cell 1 rfl, xt.cell 2 rfl, xt.cell 3 rfl, xt.cell 4 rfl, xt.cell 5 rfl⟩
        clear hK K
        try simp only [Act.put, l1, l2, l3, l4, l5, l6]
        refine wpAnyH_ready (rs := [3]) (by kernel_rfl) (by simp) ?_
        refine AllReadyH.cons rfl (fun K hK => ?_) AllReadyH.nil
        obtain ⟨xs0, xsz0, xs1, xsz1, xs2, xsz2, xs3, xsz3, xs4, xsz4, xs5, xsz5⟩ := xs.f6
        obtain ⟨xt0, xtz0, xt1, xtz1, xt2, xtz2, xt3, xtz3, xt4, xtz4, xt5, xtz5⟩ := xt.f6
        go_simp
        refine (TQ.out _).mono ?_
        rintro e V6 ⟨rfl, hk⟩
        clear xs0 xsz0 xs1 xsz1 xs2 xsz2 xs3 xsz3 xs4 xsz4 xs5 xsz5 xt0 xtz0 xt1 xtz1 xt2 xtz2 xt3 xtz3 xt4 xtz4 xt5 xtz5
        replace hB := below_seq hB hk
        replace xs := xs.seq hk
        replace xt := xt.seq hk
        clear hk
        obtain ⟨xs0, xsz0, xs1, xsz1, xs2, xsz2, xs3, xsz3, xs4, xsz4, xs5, xsz5⟩ := xs.f6
        obtain ⟨xt0, xtz0, xt1, xtz1, xt2, xtz2, xt3, xtz3, xt4, xtz4, xt5, xtz5⟩ := xt.f6
        try go_wp2_with fail
        clear xs0 xsz0 xs1 xsz1 xs2 xsz2 xs3 xsz3 xs4 xsz4 xs5 xsz5 xt0 xtz0 xt1 xtz1 xt2 xtz2 xt3 xtz3 xt4 xtz4 xt5 xtz5
        clear hHeld
        refine hK.out _ _ ?_ (fun hHeld => ?_)
        · exact ⟨xs.cell 0 rfl, xs.cell 1 rfl, xs.cell 2 rfl, xs.cell 3 rfl, xs.cell 4 rfl, xs.cell 5 rfl, xt.cell 0 rfl, xt.cell 1 rfl, xt.cell 2 rfl, xt.cell 3 rfl, xt.cell 4 rfl, xt.cell 5 rfl⟩
        clear hK K
        try simp only [Act.put, l1, l2, l3, l4, l5, l6]
        refine tk 4 (v := ?_) rfl (Or.inl ⟨by rfl, ?_⟩) ?_; rotate_left
        · intro w hSw; (try dsimp only at hSw); go_simp; try with_reducible rfl
        try simp only [Act.put, l1, l2, l3, l4, l5, l6]
        refine tk 8 (v := ?_) rfl (Or.inl ⟨by rfl, ?_⟩) ?_; rotate_left
        · intro w hSw; (try dsimp only at hSw); go_simp; try with_reducible rfl
        try simp only [Act.put, l1, l2, l3, l4, l5, l6]
        refine tk 9 (v := ?_) rfl (Or.inl ⟨by rfl, ?_⟩) ?_; rotate_left
        · intro w hSw; (try dsimp only at hSw); go_simp; try with_reducible rfl
        try simp only [Act.put, l1, l2, l3, l4, l5, l6]
        refine wpAnyH_done (by kernel_rfl) ?_ _
        clear hHeld
        obtain ⟨xs0, xsz0, xs1, xsz1, xs2, xsz2, xs3, xsz3, xs4, xsz4, xs5, xsz5⟩ := xs.f6
        obtain ⟨xt0, xtz0, xt1, xtz1, xt2, xtz2, xt3, xtz3, xt4, xtz4, xt5, xtz5⟩ := xt.f6
        go_wp2
        go_ret
        exact ⟨rfl, hB⟩
    · skip
      clear hd
      have hB : Below W.heap.size W ((W.alloc (.cells #[.int .i64 a1, .bool a2, .bool a3, .int .i64 a4, .int .i64 a5, .int .i64 a6] 23)).alloc (.cells #[.int .i64 a1, .bool b2, .bool b3, .int .i64 b4, .int .i64 b5, .int .i64 b6] 23)) := (((Below.refl _ _).alloc (Nat.le_refl _) _).alloc (by simp) _)
      have xs := ((Box.new 23 W [.int .i64 a1, .bool a2, .bool a3, .int .i64 a4, .int .i64 a5, .int .i64 a6]).alloc (.cells #[.int .i64 a1, .bool b2, .bool b3, .int .i64 b4, .int .i64 b5, .int .i64 b6] 23))
      have xt : Box 23 ((W.alloc (.cells #[.int .i64 a1, .bool a2, .bool a3, .int .i64 a4, .int .i64 a5, .int .i64 a6] 23)).alloc (.cells #[.int .i64 a1, .bool b2, .bool b3, .int .i64 b4, .int .i64 b5, .int .i64 b6] 23)) (W.heap.size + 1) [.int .i64 a1, .bool b2, .bool b3, .int .i64 b4, .int .i64 b5, .int .i64 b6] := by have h := (Box.new 23 (W.alloc (.cells #[.int .i64 a1, .bool a2, .bool a3, .int .i64 a4, .int .i64 a5, .int .i64 a6] 23)) [.int .i64 a1, .bool b2, .bool b3, .int .i64 b4, .int .i64 b5, .int .i64 b6]); rwa [World.size_alloc] at h
      have le_xt : W.heap.size ≤ W.heap.size + 1 := by omega
      go_enter Try.func5, Try.ntmps5
      obtain ⟨xs0, xsz0, xs1, xsz1, xs2, xsz2, xs3, xsz3, xs4, xsz4, xs5, xsz5⟩ := xs.f6
      obtain ⟨xt0, xtz0, xt1, xtz1, xt2, xtz2, xt3, xtz3, xt4, xtz4, xt5, xtz5⟩ := xt.f6
      go_wp2_with fail
      refine (TL.out _).mono ?_
      rintro e V1 ⟨rfl, hk⟩
      clear xs0 xsz0 xs1 xsz1 xs2 xsz2 xs3 xsz3 xs4 xsz4 xs5 xsz5 xt0 xtz0 xt1 xtz1 xt2 xtz2 xt3 xtz3 xt4 xtz4 xt5 xtz5
      replace hB := below_seq hB hk
      replace xs := xs.seq hk
      replace xt := xt.seq hk
      clear hk
      obtain ⟨xs0, xsz0, xs1, xsz1, xs2, xsz2, xs3, xsz3, xs4, xsz4, xs5, xsz5⟩ := xs.f6
      obtain ⟨xt0, xtz0, xt1, xtz1, xt2, xtz2, xt3, xtz3, xt4, xtz4, xt5, xtz5⟩ := xt.f6
      go_wp2_with fail
      refine (TM.out _).mono ?_
      rintro e V2 ⟨rfl, hk⟩
      clear xs0 xsz0 xs1 xsz1 xs2 xsz2 xs3 xsz3 xs4 xsz4 xs5 xsz5 xt0 xtz0 xt1 xtz1 xt2 xtz2 xt3 xtz3 xt4 xtz4 xt5 xtz5
      replace hB := below_seq hB hk
      replace xs := xs.seq hk
      replace xt := xt.seq hk
      clear hk
      obtain ⟨xs0, xsz0, xs1, xsz1, xs2, xsz2, xs3, xsz3, xs4, xsz4, xs5, xsz5⟩ := xs.f6
      obtain ⟨xt0, xtz0, xt1, xtz1, xt2, xtz2, xt3, xtz3, xt4, xtz4, xt5, xtz5⟩ := xt.f6
      go_wp2_with fail
      refine (shown14 _).mono ?_
      rintro e V3 ⟨rfl, hk⟩
      clear xs0 xsz0 xs1 xsz1 xs2 xsz2 xs3 xsz3 xs4 xsz4 xs5 xsz5 xt0 xtz0 xt1 xtz1 xt2 xtz2 xt3 xtz3 xt4 xtz4 xt5 xtz5
      replace hB := below_seq hB hk
      replace xs := xs.seq hk
      replace xt := xt.seq hk
      clear hk
      obtain ⟨xs0, xsz0, xs1, xsz1, xs2, xsz2, xs3, xsz3, xs4, xsz4, xs5, xsz5⟩ := xs.f6
      obtain ⟨xt0, xtz0, xt1, xtz1, xt2, xtz2, xt3, xtz3, xt4, xtz4, xt5, xtz5⟩ := xt.f6
      go_wp2_with fail
      clear xs0 xsz0 xs1 xsz1 xs2 xsz2 xs3 xsz3 xs4 xsz4 xs5 xsz5 xt0 xtz0 xt1 xtz1 xt2 xtz2 xt3 xtz3 xt4 xtz4 xt5 xtz5
      replace hB := hB.drew
      replace xs := xs.drew
      replace xt := xt.drew
      refine wp_region_held_drew (S := fun w' => w'.cell? ⟨W.heap.size, 0, none⟩ = some (.int .i64 a1) ∧ w'.cell? ⟨W.heap.size, 1, none⟩ = some (.bool a2) ∧ w'.cell? ⟨W.heap.size, 2, none⟩ = some (.bool a3) ∧ w'.cell? ⟨W.heap.size, 3, none⟩ = some (.int .i64 a4) ∧ w'.cell? ⟨W.heap.size, 4, none⟩ = some (.int .i64 a5) ∧ w'.cell? ⟨W.heap.size, 5, none⟩ = some (.int .i64 a6) ∧ w'.cell? ⟨W.heap.size + 1, 0, none⟩ = some (.int .i64 a1) ∧ w'.cell? ⟨W.heap.size + 1, 1, none⟩ = some (.bool b2) ∧ w'.cell? ⟨W.heap.size + 1, 2, none⟩ = some (.bool b3) ∧ w'.cell? ⟨W.heap.size + 1, 3, none⟩ = some (.int .i64 b4) ∧ w'.cell? ⟨W.heap.size + 1, 4, none⟩ = some (.int .i64 b5) ∧ w'.cell? ⟨W.heap.size + 1, 5, none⟩ = some (.int .i64 b6)) (by kernel_rfl) ?_ (fun hHeld => ?_)
      · exact ⟨xs.cell 0 rfl, xs.cell 1 rfl, xs.cell 2 rfl, xs.cell 3 rfl, xs.cell 4 rfl, xs.cell 5 rfl, xt.cell 0 rfl, xt.cell 1 rfl, xt.cell 2 rfl, xt.cell 3 rfl, xt.cell 4 rfl, xt.cell 5 rfl⟩
      generalize V3.drew = V4 at *
      refine tk 0 (v := ?_) rfl (Or.inl ⟨by rfl, ?_⟩) ?_; rotate_left
      · intro w hSw; (try dsimp only at hSw); go_simp; try with_reducible rfl
      try simp only [Act.put, l1, l2, l3, l4, l5, l6]
      refine tk 2 (v := ?_) rfl (Or.inl ⟨by rfl, ?_⟩) ?_; rotate_left
      · intro w hSw; (try dsimp only at hSw); go_simp; try with_reducible rfl
      try simp only [Act.put, l1, l2, l3, l4, l5, l6]
      refine tk 5 (v := ?_) rfl (Or.inl ⟨by rfl, ?_⟩) ?_; rotate_left
      · intro w hSw; (try dsimp only at hSw); go_simp; try with_reducible rfl
      try simp only [Act.put, l1, l2, l3, l4, l5, l6]
      refine tk 6 (v := ?_) rfl (Or.inl ⟨by rfl, ?_⟩) ?_; rotate_left
      · intro w hSw; (try dsimp only at hSw); go_simp; try with_reducible rfl
      try simp only [Act.put, l1, l2, l3, l4, l5, l6]
      refine tk 7 (v := ?_) rfl (Or.inl ⟨by rfl, ?_⟩) ?_; rotate_left
      · intro w hSw; (try dsimp only at hSw); go_simp; try with_reducible rfl
      try simp only [Act.put, l1, l2, l3, l4, l5, l6]
      refine wpAnyH_ready (rs := [1]) (by kernel_rfl) (by simp) ?_
      refine AllReadyH.cons rfl (fun K hK => ?_) AllReadyH.nil
      obtain ⟨xs0, xsz0, xs1, xsz1, xs2, xsz2, xs3, xsz3, xs4, xsz4, xs5, xsz5⟩ := xs.f6
      obtain ⟨xt0, xtz0, xt1, xtz1, xt2, xtz2, xt3, xtz3, xt4, xtz4, xt5, xtz5⟩ := xt.f6
      go_simp
      refine (TP.out _).mono ?_
      rintro e V5 ⟨rfl, hk⟩
      clear xs0 xsz0 xs1 xsz1 xs2 xsz2 xs3 xsz3 xs4 xsz4 xs5 xsz5 xt0 xtz0 xt1 xtz1 xt2 xtz2 xt3 xtz3 xt4 xtz4 xt5 xtz5
      replace hB := below_seq hB hk
      replace xs := xs.seq hk
      replace xt := xt.seq hk
      clear hk
      obtain ⟨xs0, xsz0, xs1, xsz1, xs2, xsz2, xs3, xsz3, xs4, xsz4, xs5, xsz5⟩ := xs.f6
      obtain ⟨xt0, xtz0, xt1, xtz1, xt2, xtz2, xt3, xtz3, xt4, xtz4, xt5, xtz5⟩ := xt.f6
      try go_wp2_with fail
      clear xs0 xsz0 xs1 xsz1 xs2 xsz2 xs3 xsz3 xs4 xsz4 xs5 xsz5 xt0 xtz0 xt1 xtz1 xt2 xtz2 xt3 xtz3 xt4 xtz4 xt5 xtz5
      clear hHeld
      refine hK.out _ _ ?_ (fun hHeld => ?_)
      · exact ⟨xs.cell 0 rfl, xs.cell 1 rfl, xs.cell 2 rfl, xs.cell 3 rfl, xs.cell 4 rfl, xs.cell 5 rfl, xt.cell 0 rfl, xt.cell 1 rfl, xt.cell 2 rfl, xt.cell 3 rfl, xt.cell 4 rfl, xt.cell 5 rfl⟩
      clear hK K
      try simp only [Act.put, l1, l2, l3, l4, l5, l6]
      refine wpAnyH_ready (rs := [3]) (by kernel_rfl) (by simp) ?_
      refine AllReadyH.cons rfl (fun K hK => ?_) AllReadyH.nil
      obtain ⟨xs0, xsz0, xs1, xsz1, xs2, xsz2, xs3, xsz3, xs4, xsz4, xs5, xsz5⟩ := xs.f6
      obtain ⟨xt0, xtz0, xt1, xtz1, xt2, xtz2, xt3, xtz3, xt4, xtz4, xt5, xtz5⟩ := xt.f6
      go_simp
      refine (TQ.out _).mono ?_
      rintro e V6 ⟨rfl, hk⟩
      clear xs0 xsz0 xs1 xsz1 xs2 xsz2 xs3 xsz3 xs4 xsz4 xs5 xsz5 xt0 xtz0 xt1 xtz1 xt2 xtz2 xt3 xtz3 xt4 xtz4 xt5 xtz5
      replace hB := below_seq hB hk
      replace xs := xs.seq hk
      replace xt := xt.seq hk
      clear hk
      obtain ⟨xs0, xsz0, xs1, xsz1, xs2, xsz2, xs3, xsz3, xs4, xsz4, xs5, xsz5⟩ := xs.f6
      obtain ⟨xt0, xtz0, xt1, xtz1, xt2, xtz2, xt3, xtz3, xt4, xtz4, xt5, xtz5⟩ := xt.f6
      try go_wp2_with fail
      clear xs0 xsz0 xs1 xsz1 xs2 xsz2 xs3 xsz3 xs4 xsz4 xs5 xsz5 xt0 xtz0 xt1 xtz1 xt2 xtz2 xt3 xtz3 xt4 xtz4 xt5 xtz5
      clear hHeld
      refine hK.out _ _ ?_ (fun hHeld => ?_)
      · exact ⟨xs.cell 0 rfl, xs.cell 1 rfl, xs.cell 2 rfl, xs.cell 3 rfl, xs.cell 4 rfl, xs.cell 5 rfl, xt.cell 0 rfl, xt.cell 1 rfl, xt.cell 2 rfl, xt.cell 3 rfl, xt.cell 4 rfl, xt.cell 5 rfl⟩
      clear hK K
      try simp only [Act.put, l1, l2, l3, l4, l5, l6]
      refine tk 4 (v := ?_) rfl (Or.inl ⟨by rfl, ?_⟩) ?_; rotate_left
      · intro w hSw; (try dsimp only at hSw); go_simp; try with_reducible rfl
      try simp only [Act.put, l1, l2, l3, l4, l5, l6]
      refine tk 8 (v := ?_) rfl (Or.inl ⟨by rfl, ?_⟩) ?_; rotate_left
      · intro w hSw; (try dsimp only at hSw); go_simp; try with_reducible rfl
      try simp only [Act.put, l1, l2, l3, l4, l5, l6]
      refine tk 9 (v := ?_) rfl (Or.inl ⟨by rfl, ?_⟩) ?_; rotate_left
      · intro w hSw; (try dsimp only at hSw); go_simp; try with_reducible rfl
      try simp only [Act.put, l1, l2, l3, l4, l5, l6]
      refine wpAnyH_done (by kernel_rfl) ?_ _
      clear hHeld
      obtain ⟨xs0, xsz0, xs1, xsz1, xs2, xsz2, xs3, xsz3, xs4, xsz4, xs5, xsz5⟩ := xs.f6
      obtain ⟨xt0, xtz0, xt1, xtz1, xt2, xtz2, xt3, xtz3, xt4, xtz4, xt5, xtz5⟩ := xt.f6
      go_wp2
      go_ret
      exact ⟨rfl, hB⟩
  · skip
    clear hd
    have hB : Below W.heap.size W ((W.alloc (.cells #[.int .i64 a1, .bool a2, .bool a3, .int .i64 a4, .int .i64 a5, .int .i64 a6] 23)).alloc (.cells #[.int .i64 b1, .bool b2, .bool b3, .int .i64 b4, .int .i64 b5, .int .i64 b6] 23)) := (((Below.refl _ _).alloc (Nat.le_refl _) _).alloc (by simp) _)
    have xs := ((Box.new 23 W [.int .i64 a1, .bool a2, .bool a3, .int .i64 a4, .int .i64 a5, .int .i64 a6]).alloc (.cells #[.int .i64 b1, .bool b2, .bool b3, .int .i64 b4, .int .i64 b5, .int .i64 b6] 23))
    have xt : Box 23 ((W.alloc (.cells #[.int .i64 a1, .bool a2, .bool a3, .int .i64 a4, .int .i64 a5, .int .i64 a6] 23)).alloc (.cells #[.int .i64 b1, .bool b2, .bool b3, .int .i64 b4, .int .i64 b5, .int .i64 b6] 23)) (W.heap.size + 1) [.int .i64 b1, .bool b2, .bool b3, .int .i64 b4, .int .i64 b5, .int .i64 b6] := by have h := (Box.new 23 (W.alloc (.cells #[.int .i64 a1, .bool a2, .bool a3, .int .i64 a4, .int .i64 a5, .int .i64 a6] 23)) [.int .i64 b1, .bool b2, .bool b3, .int .i64 b4, .int .i64 b5, .int .i64 b6]); rwa [World.size_alloc] at h
    have le_xt : W.heap.size ≤ W.heap.size + 1 := by omega
    go_enter Try.func5, Try.ntmps5
    obtain ⟨xs0, xsz0, xs1, xsz1, xs2, xsz2, xs3, xsz3, xs4, xsz4, xs5, xsz5⟩ := xs.f6
    obtain ⟨xt0, xtz0, xt1, xtz1, xt2, xtz2, xt3, xtz3, xt4, xtz4, xt5, xtz5⟩ := xt.f6
    go_wp2_with fail
    refine (TL.out _).mono ?_
    rintro e V1 ⟨rfl, hk⟩
    clear xs0 xsz0 xs1 xsz1 xs2 xsz2 xs3 xsz3 xs4 xsz4 xs5 xsz5 xt0 xtz0 xt1 xtz1 xt2 xtz2 xt3 xtz3 xt4 xtz4 xt5 xtz5
    replace hB := below_seq hB hk
    replace xs := xs.seq hk
    replace xt := xt.seq hk
    clear hk
    obtain ⟨xs0, xsz0, xs1, xsz1, xs2, xsz2, xs3, xsz3, xs4, xsz4, xs5, xsz5⟩ := xs.f6
    obtain ⟨xt0, xtz0, xt1, xtz1, xt2, xtz2, xt3, xtz3, xt4, xtz4, xt5, xtz5⟩ := xt.f6
    go_wp2_with fail
    refine (TM.out _).mono ?_
    rintro e V2 ⟨rfl, hk⟩
    clear xs0 xsz0 xs1 xsz1 xs2 xsz2 xs3 xsz3 xs4 xsz4 xs5 xsz5 xt0 xtz0 xt1 xtz1 xt2 xtz2 xt3 xtz3 xt4 xtz4 xt5 xtz5
    replace hB := below_seq hB hk
    replace xs := xs.seq hk
    replace xt := xt.seq hk
    clear hk
    obtain ⟨xs0, xsz0, xs1, xsz1, xs2, xsz2, xs3, xsz3, xs4, xsz4, xs5, xsz5⟩ := xs.f6
    obtain ⟨xt0, xtz0, xt1, xtz1, xt2, xtz2, xt3, xtz3, xt4, xtz4, xt5, xtz5⟩ := xt.f6
    go_wp2_with fail
    refine (shown14 _).mono ?_
    rintro e V3 ⟨rfl, hk⟩
    clear xs0 xsz0 xs1 xsz1 xs2 xsz2 xs3 xsz3 xs4 xsz4 xs5 xsz5 xt0 xtz0 xt1 xtz1 xt2 xtz2 xt3 xtz3 xt4 xtz4 xt5 xtz5
    replace hB := below_seq hB hk
    replace xs := xs.seq hk
    replace xt := xt.seq hk
    clear hk
    obtain ⟨xs0, xsz0, xs1, xsz1, xs2, xsz2, xs3, xsz3, xs4, xsz4, xs5, xsz5⟩ := xs.f6
    obtain ⟨xt0, xtz0, xt1, xtz1, xt2, xtz2, xt3, xtz3, xt4, xtz4, xt5, xtz5⟩ := xt.f6
    go_wp2_with fail
    clear xs0 xsz0 xs1 xsz1 xs2 xsz2 xs3 xsz3 xs4 xsz4 xs5 xsz5 xt0 xtz0 xt1 xtz1 xt2 xtz2 xt3 xtz3 xt4 xtz4 xt5 xtz5
    replace hB := hB.drew
    replace xs := xs.drew
    replace xt := xt.drew
    refine wp_region_held_drew (S := fun w' => w'.cell? ⟨W.heap.size, 0, none⟩ = some (.int .i64 a1) ∧ w'.cell? ⟨W.heap.size, 1, none⟩ = some (.bool a2) ∧ w'.cell? ⟨W.heap.size, 2, none⟩ = some (.bool a3) ∧ w'.cell? ⟨W.heap.size, 3, none⟩ = some (.int .i64 a4) ∧ w'.cell? ⟨W.heap.size, 4, none⟩ = some (.int .i64 a5) ∧ w'.cell? ⟨W.heap.size, 5, none⟩ = some (.int .i64 a6) ∧ w'.cell? ⟨W.heap.size + 1, 0, none⟩ = some (.int .i64 b1) ∧ w'.cell? ⟨W.heap.size + 1, 1, none⟩ = some (.bool b2) ∧ w'.cell? ⟨W.heap.size + 1, 2, none⟩ = some (.bool b3) ∧ w'.cell? ⟨W.heap.size + 1, 3, none⟩ = some (.int .i64 b4) ∧ w'.cell? ⟨W.heap.size + 1, 4, none⟩ = some (.int .i64 b5) ∧ w'.cell? ⟨W.heap.size + 1, 5, none⟩ = some (.int .i64 b6)) (by kernel_rfl) ?_ (fun hHeld => ?_)
    · exact ⟨xs.cell 0 rfl, xs.cell 1 rfl, xs.cell 2 rfl, xs.cell 3 rfl, xs.cell 4 rfl, xs.cell 5 rfl, xt.cell 0 rfl, xt.cell 1 rfl, xt.cell 2 rfl, xt.cell 3 rfl, xt.cell 4 rfl, xt.cell 5 rfl⟩
    generalize V3.drew = V4 at *
    refine tk 0 (v := ?_) rfl (Or.inl ⟨by rfl, ?_⟩) ?_; rotate_left
    · intro w hSw; (try dsimp only at hSw); go_simp; try with_reducible rfl
    try simp only [Act.put, l1, l2, l3, l4, l5, l6]
    refine tk 2 (v := ?_) rfl (Or.inl ⟨by rfl, ?_⟩) ?_; rotate_left
    · intro w hSw; (try dsimp only at hSw); go_simp; try with_reducible rfl
    try simp only [Act.put, l1, l2, l3, l4, l5, l6]
    refine tk 5 (v := ?_) rfl (Or.inl ⟨by rfl, ?_⟩) ?_; rotate_left
    · intro w hSw; (try dsimp only at hSw); go_simp; try with_reducible rfl
    try simp only [Act.put, l1, l2, l3, l4, l5, l6]
    refine tk 6 (v := ?_) rfl (Or.inl ⟨by rfl, ?_⟩) ?_; rotate_left
    · intro w hSw; (try dsimp only at hSw); go_simp; try with_reducible rfl
    try simp only [Act.put, l1, l2, l3, l4, l5, l6]
    refine tk 7 (v := ?_) rfl (Or.inl ⟨by rfl, ?_⟩) ?_; rotate_left
    · intro w hSw; (try dsimp only at hSw); go_simp; try with_reducible rfl
    try simp only [Act.put, l1, l2, l3, l4, l5, l6]
    refine wpAnyH_ready (rs := [1]) (by kernel_rfl) (by simp) ?_
    refine AllReadyH.cons rfl (fun K hK => ?_) AllReadyH.nil
    obtain ⟨xs0, xsz0, xs1, xsz1, xs2, xsz2, xs3, xsz3, xs4, xsz4, xs5, xsz5⟩ := xs.f6
    obtain ⟨xt0, xtz0, xt1, xtz1, xt2, xtz2, xt3, xtz3, xt4, xtz4, xt5, xtz5⟩ := xt.f6
    go_simp
    refine (TP.out _).mono ?_
    rintro e V5 ⟨rfl, hk⟩
    clear xs0 xsz0 xs1 xsz1 xs2 xsz2 xs3 xsz3 xs4 xsz4 xs5 xsz5 xt0 xtz0 xt1 xtz1 xt2 xtz2 xt3 xtz3 xt4 xtz4 xt5 xtz5
    replace hB := below_seq hB hk
    replace xs := xs.seq hk
    replace xt := xt.seq hk
    clear hk
    obtain ⟨xs0, xsz0, xs1, xsz1, xs2, xsz2, xs3, xsz3, xs4, xsz4, xs5, xsz5⟩ := xs.f6
    obtain ⟨xt0, xtz0, xt1, xtz1, xt2, xtz2, xt3, xtz3, xt4, xtz4, xt5, xtz5⟩ := xt.f6
    try go_wp2_with fail
    clear xs0 xsz0 xs1 xsz1 xs2 xsz2 xs3 xsz3 xs4 xsz4 xs5 xsz5 xt0 xtz0 xt1 xtz1 xt2 xtz2 xt3 xtz3 xt4 xtz4 xt5 xtz5
    clear hHeld
    refine hK.out _ _ ?_ (fun hHeld => ?_)
    · exact ⟨xs.cell 0 rfl, xs.cell 1 rfl, xs.cell 2 rfl, xs.cell 3 rfl, xs.cell 4 rfl, xs.cell 5 rfl, xt.cell 0 rfl, xt.cell 1 rfl, xt.cell 2 rfl, xt.cell 3 rfl, xt.cell 4 rfl, xt.cell 5 rfl⟩
    clear hK K
    try simp only [Act.put, l1, l2, l3, l4, l5, l6]
    refine wpAnyH_ready (rs := [3]) (by kernel_rfl) (by simp) ?_
    refine AllReadyH.cons rfl (fun K hK => ?_) AllReadyH.nil
    obtain ⟨xs0, xsz0, xs1, xsz1, xs2, xsz2, xs3, xsz3, xs4, xsz4, xs5, xsz5⟩ := xs.f6
    obtain ⟨xt0, xtz0, xt1, xtz1, xt2, xtz2, xt3, xtz3, xt4, xtz4, xt5, xtz5⟩ := xt.f6
    go_simp
    refine (TQ.out _).mono ?_
    rintro e V6 ⟨rfl, hk⟩
    clear xs0 xsz0 xs1 xsz1 xs2 xsz2 xs3 xsz3 xs4 xsz4 xs5 xsz5 xt0 xtz0 xt1 xtz1 xt2 xtz2 xt3 xtz3 xt4 xtz4 xt5 xtz5
    replace hB := below_seq hB hk
    replace xs := xs.seq hk
    replace xt := xt.seq hk
    clear hk
    obtain ⟨xs0, xsz0, xs1, xsz1, xs2, xsz2, xs3, xsz3, xs4, xsz4, xs5, xsz5⟩ := xs.f6
    obtain ⟨xt0, xtz0, xt1, xtz1, xt2, xtz2, xt3, xtz3, xt4, xtz4, xt5, xtz5⟩ := xt.f6
    try go_wp2_with fail
    clear xs0 xsz0 xs1 xsz1 xs2 xsz2 xs3 xsz3 xs4 xsz4 xs5 xsz5 xt0 xtz0 xt1 xtz1 xt2 xtz2 xt3 xtz3 xt4 xtz4 xt5 xtz5
    clear hHeld
    refine hK.out _ _ ?_ (fun hHeld => ?_)
    · exact ⟨xs.cell 0 rfl, xs.cell 1 rfl, xs.cell 2 rfl, xs.cell 3 rfl, xs.cell 4 rfl, xs.cell 5 rfl, xt.cell 0 rfl, xt.cell 1 rfl, xt.cell 2 rfl, xt.cell 3 rfl, xt.cell 4 rfl, xt.cell 5 rfl⟩
    clear hK K
    try simp only [Act.put, l1, l2, l3, l4, l5, l6]
    refine tk 4 (v := ?_) rfl (Or.inl ⟨by rfl, ?_⟩) ?_; rotate_left
    · intro w hSw; (try dsimp only at hSw); go_simp; try with_reducible rfl
    try simp only [Act.put, l1, l2, l3, l4, l5, l6]
    refine tk 8 (v := ?_) rfl (Or.inl ⟨by rfl, ?_⟩) ?_; rotate_left
    · intro w hSw; (try dsimp only at hSw); go_simp; try with_reducible rfl
    try simp only [Act.put, l1, l2, l3, l4, l5, l6]
    refine tk 9 (v := ?_) rfl (Or.inl ⟨by rfl, ?_⟩) ?_; rotate_left
    · intro w hSw; (try dsimp only at hSw); go_simp; try with_reducible rfl
    try simp only [Act.put, l1, l2, l3, l4, l5, l6]
    refine wpAnyH_done (by kernel_rfl) ?_ _
    clear hHeld
    obtain ⟨xs0, xsz0, xs1, xsz1, xs2, xsz2, xs3, xsz3, xs4, xsz4, xs5, xsz5⟩ := xs.f6
    obtain ⟨xt0, xtz0, xt1, xtz1, xt2, xtz2, xt3, xtz3, xt4, xtz4, xt5, xtz5⟩ := xt.f6
    go_wp2
    go_ret
    exact ⟨rfl, hB⟩


set_option maxRecDepth 100000 in
set_option maxHeartbeats 8000000 in
theorem walk (s : St) (t : St) (W : World) (hs : s.ok) (ht : t.ok) :
    Calls Try.prog 5 #[.agg #[.int .i64 s.mode, .bool s.armed, .bool s.home, .int .i64 s.lat, .int .i64 s.lon, .int .i64 s.iso], .agg #[.int .i64 t.mode, .bool t.armed, .bool t.home, .int .i64 t.lat, .int .i64 t.lon, .int .i64 t.iso]] W fun e W' => e = .returned (.bool true) ∧ Below W.heap.size W W' := by
  have TL := fun (V : World) => own14Legal s V hs
  have TM := fun (V : World) => own14Legal t V ht
  by_cases k : Legal s
  · by_cases l : Legal t
    · have TP := Lib.hid (fun (V : World) => own14Pack s V hs)
      have TQ := Lib.hid (fun (V : World) => own14Pack t V ht)
      simp only [(legal_iff s).2 k] at TL
      simp only [(legal_iff t).2 l] at TM
      replace TL := Lib.hid TL
      replace TM := Lib.hid TM
      have hinj := fun e : packN s = packN t => pack_inj k l e
      by_cases e : packN s = packN t
      · obtain rfl := hinj e
        clear e hinj k l
        have hB : Below W.heap.size W ((W.alloc (.cells #[.int .i64 s.mode, .bool s.armed, .bool s.home, .int .i64 s.lat, .int .i64 s.lon, .int .i64 s.iso] 23)).alloc (.cells #[.int .i64 s.mode, .bool s.armed, .bool s.home, .int .i64 s.lat, .int .i64 s.lon, .int .i64 s.iso] 23)) := (((Below.refl _ _).alloc (Nat.le_refl _) _).alloc (by simp) _)
        have xs := ((Box.new 23 W [.int .i64 s.mode, .bool s.armed, .bool s.home, .int .i64 s.lat, .int .i64 s.lon, .int .i64 s.iso]).alloc (.cells #[.int .i64 s.mode, .bool s.armed, .bool s.home, .int .i64 s.lat, .int .i64 s.lon, .int .i64 s.iso] 23))
        have xt : Box 23 ((W.alloc (.cells #[.int .i64 s.mode, .bool s.armed, .bool s.home, .int .i64 s.lat, .int .i64 s.lon, .int .i64 s.iso] 23)).alloc (.cells #[.int .i64 s.mode, .bool s.armed, .bool s.home, .int .i64 s.lat, .int .i64 s.lon, .int .i64 s.iso] 23)) (W.heap.size + 1) [.int .i64 s.mode, .bool s.armed, .bool s.home, .int .i64 s.lat, .int .i64 s.lon, .int .i64 s.iso] := by have h := (Box.new 23 (W.alloc (.cells #[.int .i64 s.mode, .bool s.armed, .bool s.home, .int .i64 s.lat, .int .i64 s.lon, .int .i64 s.iso] 23)) [.int .i64 s.mode, .bool s.armed, .bool s.home, .int .i64 s.lat, .int .i64 s.lon, .int .i64 s.iso]); rwa [World.size_alloc] at h
        have le_xt : W.heap.size ≤ W.heap.size + 1 := by omega
        go_enter Try.func5, Try.ntmps5
        obtain ⟨xs0, xsz0, xs1, xsz1, xs2, xsz2, xs3, xsz3, xs4, xsz4, xs5, xsz5⟩ := xs.f6
        obtain ⟨xt0, xtz0, xt1, xtz1, xt2, xtz2, xt3, xtz3, xt4, xtz4, xt5, xtz5⟩ := xt.f6
        go_wp2_with fail
        refine (TL.out _).mono ?_
        rintro e V1 ⟨rfl, hk⟩
        clear xs0 xsz0 xs1 xsz1 xs2 xsz2 xs3 xsz3 xs4 xsz4 xs5 xsz5 xt0 xtz0 xt1 xtz1 xt2 xtz2 xt3 xtz3 xt4 xtz4 xt5 xtz5
        replace hB := below_seq hB hk
        replace xs := xs.seq hk
        replace xt := xt.seq hk
        clear hk
        obtain ⟨xs0, xsz0, xs1, xsz1, xs2, xsz2, xs3, xsz3, xs4, xsz4, xs5, xsz5⟩ := xs.f6
        obtain ⟨xt0, xtz0, xt1, xtz1, xt2, xtz2, xt3, xtz3, xt4, xtz4, xt5, xtz5⟩ := xt.f6
        go_wp2_with fail
        refine (TM.out _).mono ?_
        rintro e V2 ⟨rfl, hk⟩
        clear xs0 xsz0 xs1 xsz1 xs2 xsz2 xs3 xsz3 xs4 xsz4 xs5 xsz5 xt0 xtz0 xt1 xtz1 xt2 xtz2 xt3 xtz3 xt4 xtz4 xt5 xtz5
        replace hB := below_seq hB hk
        replace xs := xs.seq hk
        replace xt := xt.seq hk
        clear hk
        obtain ⟨xs0, xsz0, xs1, xsz1, xs2, xsz2, xs3, xsz3, xs4, xsz4, xs5, xsz5⟩ := xs.f6
        obtain ⟨xt0, xtz0, xt1, xtz1, xt2, xtz2, xt3, xtz3, xt4, xtz4, xt5, xtz5⟩ := xt.f6
        go_wp2_with fail
        refine (shown14 _).mono ?_
        rintro e V3 ⟨rfl, hk⟩
        clear xs0 xsz0 xs1 xsz1 xs2 xsz2 xs3 xsz3 xs4 xsz4 xs5 xsz5 xt0 xtz0 xt1 xtz1 xt2 xtz2 xt3 xtz3 xt4 xtz4 xt5 xtz5
        replace hB := below_seq hB hk
        replace xs := xs.seq hk
        replace xt := xt.seq hk
        clear hk
        obtain ⟨xs0, xsz0, xs1, xsz1, xs2, xsz2, xs3, xsz3, xs4, xsz4, xs5, xsz5⟩ := xs.f6
        obtain ⟨xt0, xtz0, xt1, xtz1, xt2, xtz2, xt3, xtz3, xt4, xtz4, xt5, xtz5⟩ := xt.f6
        go_wp2_with fail
        clear xs0 xsz0 xs1 xsz1 xs2 xsz2 xs3 xsz3 xs4 xsz4 xs5 xsz5 xt0 xtz0 xt1 xtz1 xt2 xtz2 xt3 xtz3 xt4 xtz4 xt5 xtz5
        replace hB := hB.drew
        replace xs := xs.drew
        replace xt := xt.drew
        refine wp_region_held_drew (S := fun w' => w'.cell? ⟨W.heap.size, 0, none⟩ = some (.int .i64 s.mode) ∧ w'.cell? ⟨W.heap.size, 1, none⟩ = some (.bool s.armed) ∧ w'.cell? ⟨W.heap.size, 2, none⟩ = some (.bool s.home) ∧ w'.cell? ⟨W.heap.size, 3, none⟩ = some (.int .i64 s.lat) ∧ w'.cell? ⟨W.heap.size, 4, none⟩ = some (.int .i64 s.lon) ∧ w'.cell? ⟨W.heap.size, 5, none⟩ = some (.int .i64 s.iso) ∧ w'.cell? ⟨W.heap.size + 1, 0, none⟩ = some (.int .i64 s.mode) ∧ w'.cell? ⟨W.heap.size + 1, 1, none⟩ = some (.bool s.armed) ∧ w'.cell? ⟨W.heap.size + 1, 2, none⟩ = some (.bool s.home) ∧ w'.cell? ⟨W.heap.size + 1, 3, none⟩ = some (.int .i64 s.lat) ∧ w'.cell? ⟨W.heap.size + 1, 4, none⟩ = some (.int .i64 s.lon) ∧ w'.cell? ⟨W.heap.size + 1, 5, none⟩ = some (.int .i64 s.iso)) (by kernel_rfl) ?_ (fun hHeld => ?_)
        · exact ⟨xs.cell 0 rfl, xs.cell 1 rfl, xs.cell 2 rfl, xs.cell 3 rfl, xs.cell 4 rfl, xs.cell 5 rfl, xt.cell 0 rfl, xt.cell 1 rfl, xt.cell 2 rfl, xt.cell 3 rfl, xt.cell 4 rfl, xt.cell 5 rfl⟩
        generalize V3.drew = V4 at *
        refine tk 0 (v := ?_) rfl (Or.inl ⟨by rfl, ?_⟩) ?_; rotate_left
        · intro w hSw; (try dsimp only at hSw); go_simp; try with_reducible rfl
        try simp only [Act.put, l1, l2, l3, l4, l5, l6]
        refine tk 2 (v := ?_) rfl (Or.inl ⟨by rfl, ?_⟩) ?_; rotate_left
        · intro w hSw; (try dsimp only at hSw); go_simp; try with_reducible rfl
        try simp only [Act.put, l1, l2, l3, l4, l5, l6]
        refine tk 5 (v := ?_) rfl (Or.inl ⟨by rfl, ?_⟩) ?_; rotate_left
        · intro w hSw; (try dsimp only at hSw); go_simp; try with_reducible rfl
        try simp only [Act.put, l1, l2, l3, l4, l5, l6]
        refine tk 6 (v := ?_) rfl (Or.inl ⟨by rfl, ?_⟩) ?_; rotate_left
        · intro w hSw; (try dsimp only at hSw); go_simp; try with_reducible rfl
        try simp only [Act.put, l1, l2, l3, l4, l5, l6]
        refine tk 7 (v := ?_) rfl (Or.inl ⟨by rfl, ?_⟩) ?_; rotate_left
        · intro w hSw; (try dsimp only at hSw); go_simp; try with_reducible rfl
        try simp only [Act.put, l1, l2, l3, l4, l5, l6]
        refine wpAnyH_ready (rs := [1]) (by kernel_rfl) (by simp) ?_
        refine AllReadyH.cons rfl (fun K hK => ?_) AllReadyH.nil
        obtain ⟨xs0, xsz0, xs1, xsz1, xs2, xsz2, xs3, xsz3, xs4, xsz4, xs5, xsz5⟩ := xs.f6
        obtain ⟨xt0, xtz0, xt1, xtz1, xt2, xtz2, xt3, xtz3, xt4, xtz4, xt5, xtz5⟩ := xt.f6
        go_simp
        refine (TP.out _).mono ?_
        rintro e V5 ⟨rfl, hk⟩
        clear xs0 xsz0 xs1 xsz1 xs2 xsz2 xs3 xsz3 xs4 xsz4 xs5 xsz5 xt0 xtz0 xt1 xtz1 xt2 xtz2 xt3 xtz3 xt4 xtz4 xt5 xtz5
        replace hB := below_seq hB hk
        replace xs := xs.seq hk
        replace xt := xt.seq hk
        clear hk
        obtain ⟨xs0, xsz0, xs1, xsz1, xs2, xsz2, xs3, xsz3, xs4, xsz4, xs5, xsz5⟩ := xs.f6
        obtain ⟨xt0, xtz0, xt1, xtz1, xt2, xtz2, xt3, xtz3, xt4, xtz4, xt5, xtz5⟩ := xt.f6
        try go_wp2_with fail
        clear xs0 xsz0 xs1 xsz1 xs2 xsz2 xs3 xsz3 xs4 xsz4 xs5 xsz5 xt0 xtz0 xt1 xtz1 xt2 xtz2 xt3 xtz3 xt4 xtz4 xt5 xtz5
        clear hHeld
        refine hK.out _ _ ?_ (fun hHeld => ?_)
        · exact ⟨xs.cell 0 rfl, xs.cell 1 rfl, xs.cell 2 rfl, xs.cell 3 rfl, xs.cell 4 rfl, xs.cell 5 rfl, xt.cell 0 rfl, xt.cell 1 rfl, xt.cell 2 rfl, xt.cell 3 rfl, xt.cell 4 rfl, xt.cell 5 rfl⟩
        clear hK K
        try simp only [Act.put, l1, l2, l3, l4, l5, l6]
        refine wpAnyH_ready (rs := [3]) (by kernel_rfl) (by simp) ?_
        refine AllReadyH.cons rfl (fun K hK => ?_) AllReadyH.nil
        obtain ⟨xs0, xsz0, xs1, xsz1, xs2, xsz2, xs3, xsz3, xs4, xsz4, xs5, xsz5⟩ := xs.f6
        obtain ⟨xt0, xtz0, xt1, xtz1, xt2, xtz2, xt3, xtz3, xt4, xtz4, xt5, xtz5⟩ := xt.f6
        go_simp
        refine (TQ.out _).mono ?_
        rintro e V6 ⟨rfl, hk⟩
        clear xs0 xsz0 xs1 xsz1 xs2 xsz2 xs3 xsz3 xs4 xsz4 xs5 xsz5 xt0 xtz0 xt1 xtz1 xt2 xtz2 xt3 xtz3 xt4 xtz4 xt5 xtz5
        replace hB := below_seq hB hk
        replace xs := xs.seq hk
        replace xt := xt.seq hk
        clear hk
        obtain ⟨xs0, xsz0, xs1, xsz1, xs2, xsz2, xs3, xsz3, xs4, xsz4, xs5, xsz5⟩ := xs.f6
        obtain ⟨xt0, xtz0, xt1, xtz1, xt2, xtz2, xt3, xtz3, xt4, xtz4, xt5, xtz5⟩ := xt.f6
        try go_wp2_with fail
        clear xs0 xsz0 xs1 xsz1 xs2 xsz2 xs3 xsz3 xs4 xsz4 xs5 xsz5 xt0 xtz0 xt1 xtz1 xt2 xtz2 xt3 xtz3 xt4 xtz4 xt5 xtz5
        clear hHeld
        refine hK.out _ _ ?_ (fun hHeld => ?_)
        · exact ⟨xs.cell 0 rfl, xs.cell 1 rfl, xs.cell 2 rfl, xs.cell 3 rfl, xs.cell 4 rfl, xs.cell 5 rfl, xt.cell 0 rfl, xt.cell 1 rfl, xt.cell 2 rfl, xt.cell 3 rfl, xt.cell 4 rfl, xt.cell 5 rfl⟩
        clear hK K
        try simp only [Act.put, l1, l2, l3, l4, l5, l6]
        refine tk 4 (v := ?_) rfl (Or.inl ⟨by rfl, ?_⟩) ?_; rotate_left
        · intro w hSw; (try dsimp only at hSw); go_simp; try with_reducible rfl
        try simp only [Act.put, l1, l2, l3, l4, l5, l6]
        refine tk 8 (v := ?_) rfl (Or.inl ⟨by rfl, ?_⟩) ?_; rotate_left
        · intro w hSw; (try dsimp only at hSw); go_simp; try with_reducible rfl
        try simp only [Act.put, l1, l2, l3, l4, l5, l6]
        refine tk 9 (v := ?_) rfl (Or.inl ⟨by rfl, ?_⟩) ?_; rotate_left
        · intro w hSw; (try dsimp only at hSw); go_simp; try with_reducible rfl
        try simp only [Act.put, l1, l2, l3, l4, l5, l6]
        refine wpAnyH_done (by kernel_rfl) ?_ _
        clear hHeld
        obtain ⟨xs0, xsz0, xs1, xsz1, xs2, xsz2, xs3, xsz3, xs4, xsz4, xs5, xsz5⟩ := xs.f6
        obtain ⟨xt0, xtz0, xt1, xtz1, xt2, xtz2, xt3, xtz3, xt4, xtz4, xt5, xtz5⟩ := xt.f6
        go_wp2
        go_ret
        exact ⟨rfl, hB⟩
      · exact apartNe s.mode s.armed s.home s.lat s.lon s.iso t.mode t.armed t.home t.lat t.lon t.iso (packN s) (packN t) W TL.out TM.out TP.out TQ.out e (fun h1 h2 h3 h4 h5 h6 => e (by obtain ⟨a1, a2, a3, a4, a5, a6⟩ := s; obtain ⟨b1, b2, b3, b4, b5, b6⟩ := t; simp only at h1 h2 h3 h4 h5 h6; subst h1 h2 h3 h4 h5 h6; rfl))
    · skip
      simp only [(legal_iff s).2 k] at TL
      have nl : legalB t = false := by { cases c : legalB t; rfl; exact absurd ((legal_iff t).1 c) l }
      simp only [nl] at TM
      replace TL := Lib.hid TL
      replace TM := Lib.hid TM
      clear k l nl
      have hB : Below W.heap.size W ((W.alloc (.cells #[.int .i64 s.mode, .bool s.armed, .bool s.home, .int .i64 s.lat, .int .i64 s.lon, .int .i64 s.iso] 23)).alloc (.cells #[.int .i64 t.mode, .bool t.armed, .bool t.home, .int .i64 t.lat, .int .i64 t.lon, .int .i64 t.iso] 23)) := (((Below.refl _ _).alloc (Nat.le_refl _) _).alloc (by simp) _)
      have xs := ((Box.new 23 W [.int .i64 s.mode, .bool s.armed, .bool s.home, .int .i64 s.lat, .int .i64 s.lon, .int .i64 s.iso]).alloc (.cells #[.int .i64 t.mode, .bool t.armed, .bool t.home, .int .i64 t.lat, .int .i64 t.lon, .int .i64 t.iso] 23))
      have xt : Box 23 ((W.alloc (.cells #[.int .i64 s.mode, .bool s.armed, .bool s.home, .int .i64 s.lat, .int .i64 s.lon, .int .i64 s.iso] 23)).alloc (.cells #[.int .i64 t.mode, .bool t.armed, .bool t.home, .int .i64 t.lat, .int .i64 t.lon, .int .i64 t.iso] 23)) (W.heap.size + 1) [.int .i64 t.mode, .bool t.armed, .bool t.home, .int .i64 t.lat, .int .i64 t.lon, .int .i64 t.iso] := by have h := (Box.new 23 (W.alloc (.cells #[.int .i64 s.mode, .bool s.armed, .bool s.home, .int .i64 s.lat, .int .i64 s.lon, .int .i64 s.iso] 23)) [.int .i64 t.mode, .bool t.armed, .bool t.home, .int .i64 t.lat, .int .i64 t.lon, .int .i64 t.iso]); rwa [World.size_alloc] at h
      have le_xt : W.heap.size ≤ W.heap.size + 1 := by omega
      go_enter Try.func5, Try.ntmps5
      obtain ⟨xs0, xsz0, xs1, xsz1, xs2, xsz2, xs3, xsz3, xs4, xsz4, xs5, xsz5⟩ := xs.f6
      obtain ⟨xt0, xtz0, xt1, xtz1, xt2, xtz2, xt3, xtz3, xt4, xtz4, xt5, xtz5⟩ := xt.f6
      go_wp2_with fail
      refine (TL.out _).mono ?_
      rintro e V1 ⟨rfl, hk⟩
      clear xs0 xsz0 xs1 xsz1 xs2 xsz2 xs3 xsz3 xs4 xsz4 xs5 xsz5 xt0 xtz0 xt1 xtz1 xt2 xtz2 xt3 xtz3 xt4 xtz4 xt5 xtz5
      replace hB := below_seq hB hk
      replace xs := xs.seq hk
      replace xt := xt.seq hk
      clear hk
      obtain ⟨xs0, xsz0, xs1, xsz1, xs2, xsz2, xs3, xsz3, xs4, xsz4, xs5, xsz5⟩ := xs.f6
      obtain ⟨xt0, xtz0, xt1, xtz1, xt2, xtz2, xt3, xtz3, xt4, xtz4, xt5, xtz5⟩ := xt.f6
      go_wp2_with fail
      refine (TM.out _).mono ?_
      rintro e V2 ⟨rfl, hk⟩
      clear xs0 xsz0 xs1 xsz1 xs2 xsz2 xs3 xsz3 xs4 xsz4 xs5 xsz5 xt0 xtz0 xt1 xtz1 xt2 xtz2 xt3 xtz3 xt4 xtz4 xt5 xtz5
      replace hB := below_seq hB hk
      replace xs := xs.seq hk
      replace xt := xt.seq hk
      clear hk
      obtain ⟨xs0, xsz0, xs1, xsz1, xs2, xsz2, xs3, xsz3, xs4, xsz4, xs5, xsz5⟩ := xs.f6
      obtain ⟨xt0, xtz0, xt1, xtz1, xt2, xtz2, xt3, xtz3, xt4, xtz4, xt5, xtz5⟩ := xt.f6
      go_wp2_with fail
      refine (shown14 _).mono ?_
      rintro e V3 ⟨rfl, hk⟩
      clear xs0 xsz0 xs1 xsz1 xs2 xsz2 xs3 xsz3 xs4 xsz4 xs5 xsz5 xt0 xtz0 xt1 xtz1 xt2 xtz2 xt3 xtz3 xt4 xtz4 xt5 xtz5
      replace hB := below_seq hB hk
      replace xs := xs.seq hk
      replace xt := xt.seq hk
      clear hk
      obtain ⟨xs0, xsz0, xs1, xsz1, xs2, xsz2, xs3, xsz3, xs4, xsz4, xs5, xsz5⟩ := xs.f6
      obtain ⟨xt0, xtz0, xt1, xtz1, xt2, xtz2, xt3, xtz3, xt4, xtz4, xt5, xtz5⟩ := xt.f6
      go_wp2
      go_ret
      exact ⟨rfl, hB⟩
  · skip
    have nl : legalB s = false := by { cases c : legalB s; rfl; exact absurd ((legal_iff s).1 c) k }
    simp only [nl] at TL
    replace TL := Lib.hid TL
    clear k nl
    have hB : Below W.heap.size W ((W.alloc (.cells #[.int .i64 s.mode, .bool s.armed, .bool s.home, .int .i64 s.lat, .int .i64 s.lon, .int .i64 s.iso] 23)).alloc (.cells #[.int .i64 t.mode, .bool t.armed, .bool t.home, .int .i64 t.lat, .int .i64 t.lon, .int .i64 t.iso] 23)) := (((Below.refl _ _).alloc (Nat.le_refl _) _).alloc (by simp) _)
    have xs := ((Box.new 23 W [.int .i64 s.mode, .bool s.armed, .bool s.home, .int .i64 s.lat, .int .i64 s.lon, .int .i64 s.iso]).alloc (.cells #[.int .i64 t.mode, .bool t.armed, .bool t.home, .int .i64 t.lat, .int .i64 t.lon, .int .i64 t.iso] 23))
    have xt : Box 23 ((W.alloc (.cells #[.int .i64 s.mode, .bool s.armed, .bool s.home, .int .i64 s.lat, .int .i64 s.lon, .int .i64 s.iso] 23)).alloc (.cells #[.int .i64 t.mode, .bool t.armed, .bool t.home, .int .i64 t.lat, .int .i64 t.lon, .int .i64 t.iso] 23)) (W.heap.size + 1) [.int .i64 t.mode, .bool t.armed, .bool t.home, .int .i64 t.lat, .int .i64 t.lon, .int .i64 t.iso] := by have h := (Box.new 23 (W.alloc (.cells #[.int .i64 s.mode, .bool s.armed, .bool s.home, .int .i64 s.lat, .int .i64 s.lon, .int .i64 s.iso] 23)) [.int .i64 t.mode, .bool t.armed, .bool t.home, .int .i64 t.lat, .int .i64 t.lon, .int .i64 t.iso]); rwa [World.size_alloc] at h
    have le_xt : W.heap.size ≤ W.heap.size + 1 := by omega
    go_enter Try.func5, Try.ntmps5
    obtain ⟨xs0, xsz0, xs1, xsz1, xs2, xsz2, xs3, xsz3, xs4, xsz4, xs5, xsz5⟩ := xs.f6
    obtain ⟨xt0, xtz0, xt1, xtz1, xt2, xtz2, xt3, xtz3, xt4, xtz4, xt5, xtz5⟩ := xt.f6
    go_wp2_with fail
    refine (TL.out _).mono ?_
    rintro e V1 ⟨rfl, hk⟩
    clear xs0 xsz0 xs1 xsz1 xs2 xsz2 xs3 xsz3 xs4 xsz4 xs5 xsz5 xt0 xtz0 xt1 xtz1 xt2 xtz2 xt3 xtz3 xt4 xtz4 xt5 xtz5
    replace hB := below_seq hB hk
    replace xs := xs.seq hk
    replace xt := xt.seq hk
    clear hk
    obtain ⟨xs0, xsz0, xs1, xsz1, xs2, xsz2, xs3, xsz3, xs4, xsz4, xs5, xsz5⟩ := xs.f6
    obtain ⟨xt0, xtz0, xt1, xtz1, xt2, xtz2, xt3, xtz3, xt4, xtz4, xt5, xtz5⟩ := xt.f6
    go_wp2_with fail
    refine (shown14 _).mono ?_
    rintro e V2 ⟨rfl, hk⟩
    clear xs0 xsz0 xs1 xsz1 xs2 xsz2 xs3 xsz3 xs4 xsz4 xs5 xsz5 xt0 xtz0 xt1 xtz1 xt2 xtz2 xt3 xtz3 xt4 xtz4 xt5 xtz5
    replace hB := below_seq hB hk
    replace xs := xs.seq hk
    replace xt := xt.seq hk
    clear hk
    obtain ⟨xs0, xsz0, xs1, xsz1, xs2, xsz2, xs3, xsz3, xs4, xsz4, xs5, xsz5⟩ := xs.f6
    obtain ⟨xt0, xtz0, xt1, xtz1, xt2, xtz2, xt3, xtz3, xt4, xtz4, xt5, xtz5⟩ := xt.f6
    go_wp2
    go_ret
    exact ⟨rfl, hB⟩

theorem own : ownKnob Try.prog.godebug = none := by kernel_rfl

set_option maxRecDepth 100000 in
theorem lifted (os : Os) (started : os.Started) (H : Type) (enc : TypeId × Value → H) :
    ReturnsInHanded {} Try.checked os 5 .any (Rows.stateApartSpec.pre6 enc Try.prog Try.f5 Rows.stateApartRow.domain false) (Rows.stateApartSpec.post enc Try.prog Try.f5 false true false false) := by
  refine returnsInHanded_of_change (C := Try.checked) own started (by kernel_rfl) Try.func5
    (ChangeSpec.witness6 (enc := enc) (C := Try.checked) false ⟨#[], #[.agg #[.int .i64 0, .bool false, .bool false, .int .i64 0, .int .i64 0, .int .i64 0], .agg #[.int .i64 0, .bool false, .bool false, .int .i64 0, .int .i64 0, .int .i64 0]], []⟩ 8 (by kernel_rfl) (by kernel_rfl) (by kernel_rfl) (by kernel_rfl)) ?_
  intro W base args ds gs before hval hW _ _
  have hW' := hW
  obtain ⟨p, q, hA0, hV, rfl, hfz, hnd⟩ := hW
  have hA : DataW.TrodAll enc Try.prog W 0 (fun _ => true) true Try.f5.params.toList args.toList ds p := hA0
  rw [Try.params5] at hA hval
  obtain ⟨v0, vs0, d0, ds0, p0, q0, hargs, rfl, rfl, h0, r0⟩ := trodAll_cons hA
  obtain ⟨v1, vs1, d1, ds1, p1, q1, rfl, rfl, rfl, h1, r1⟩ := trodAll_cons r0
  obtain ⟨rfl, rfl, rfl⟩ := trodAll_nil r1
  obtain rfl : args = #[v0, v1] := by cases args; simp_all
  obtain ⟨rfl, rfl⟩ := trodVars_none hV
  have k0 := h0
  obtain ⟨s0, rfl, hs0⟩ := open_st (hval 0 23 v0 rfl rfl) h0
  have k1 := h1
  obtain ⟨s1, rfl, hs1⟩ := open_st (hval 1 23 v1 rfl rfl) h1
  clear hA0
  simp only [List.append_nil] at hW'
  refine (walk s0 s1 W hs0 hs1).mono fun e W' ⟨he, hB⟩ => ?_
  subst he
  exact ⟨_, rfl, ⟨_, _, _, [], _, [], hW', trodAll_cons_mk (shut_bool Try.underlying4 _) trodAll_mk0, (trodAll_cons_mk (Below.trod Try.laidOut (by kernel_rfl) (of_decide_eq_true (by kernel_rfl)) k0 hB (fun x hx => by simpa using hW'.lt x (by simp [hx]))) (trodAll_cons_mk (Below.trod Try.laidOut (by kernel_rfl) (of_decide_eq_true (by kernel_rfl)) k1 hB (fun x hx => by simpa using hW'.lt x (by simp [hx]))) trodAll_mk0)), rfl, hB.frame _, fun h => by cases h⟩⟩

theorem holds : Rows.StateApartSaid :=
  OpenClaim.holds_of_wide 5 Try.f5 rfl rfl rfl rfl rfl rfl rfl ⟨rfl, rfl, rfl, rfl, rfl⟩ rfl rfl rfl rfl rfl (by kernel_rfl) Try.func5 (by kernel_rfl)
    (of_decide_eq_true (by kernel_rfl)) (by unfold Func.isWrapper; first | (rw [if_pos (by decide +kernel)]; kernel_rfl) | (rw [if_neg (by decide +kernel)]; exact ⟨rfl, rfl⟩))
    (fun os started H enc _ => lifted os started H enc)
end Go.Proofs.Ytkdadjojahfmeaa.StateApart

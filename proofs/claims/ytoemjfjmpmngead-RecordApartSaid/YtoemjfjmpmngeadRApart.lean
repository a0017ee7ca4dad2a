/- Two records of known kinds have the same bytes just if they are the same (RecordApart); no condition. -/
import Derived.Test.YtoemjfjmpmngeadRecLaw
import Derived.Deep.RegionHeld3
import Derived.WalkLawsBesides
import Derived.WalkSpells
import Derived.IntWalk
import Derived.Lib.Hide
import Derived.Test.YtoemjfjmpmngeadBox
import Derived.ProofKit
import Derived.OpenShut
import Derived.ChangeMaps5
import Derived.Test.YtoemjfjmpmngeadInts
namespace Go.Proofs.Ytoemjfjmpmngead.RecordApart
open Go.ChangeShapes Go.WideShapes Go.ChangeAt Go.RowKit Go.ChangeMaps
set_option linter.unusedVariables false
set_option linter.unusedSimpArgs false

set_option maxRecDepth 100000 in
set_option maxHeartbeats 16000000 in
theorem walk (a : Rec) (b : Rec) (W : World) (ha : a.ok) (hb : b.ok) :
    Calls Try.prog 3 #[.agg #[.int .i64 a.kind, .int .u64 (a.seq : Int), .int .u64 (a.data : Int)], .agg #[.int .i64 b.kind, .int .u64 (b.seq : Int), .int .u64 (b.data : Int)]] W fun e W' => e = .returned (.bool true) ∧ Below W.heap.size W W' := by
  have he1 : (bs (encL a)).size = 24 := by rw [bs_size, encL_length]
  clear he1
  by_cases c2 : a.kind < 1
  · have hB : Below W.heap.size W ((W.alloc (.cells #[.int .i64 a.kind, .int .u64 (a.seq : Int), .int .u64 (a.data : Int)] 24)).alloc (.cells #[.int .i64 b.kind, .int .u64 (b.seq : Int), .int .u64 (b.data : Int)] 24)) := (((Below.refl _ _).alloc (Nat.le_refl _) _).alloc (by simp) _)
    have xa := ((Box.new 24 W [.int .i64 a.kind, .int .u64 (a.seq : Int), .int .u64 (a.data : Int)]).alloc (.cells #[.int .i64 b.kind, .int .u64 (b.seq : Int), .int .u64 (b.data : Int)] 24))
    have xb : Box 24 ((W.alloc (.cells #[.int .i64 a.kind, .int .u64 (a.seq : Int), .int .u64 (a.data : Int)] 24)).alloc (.cells #[.int .i64 b.kind, .int .u64 (b.seq : Int), .int .u64 (b.data : Int)] 24)) (W.heap.size + 1) [.int .i64 b.kind, .int .u64 (b.seq : Int), .int .u64 (b.data : Int)] := by have h := (Box.new 24 (W.alloc (.cells #[.int .i64 a.kind, .int .u64 (a.seq : Int), .int .u64 (a.data : Int)] 24)) [.int .i64 b.kind, .int .u64 (b.seq : Int), .int .u64 (b.data : Int)]); rwa [World.size_alloc] at h
    have le_xb : W.heap.size ≤ W.heap.size + 1 := by omega
    go_enter Try.func3, Try.ntmps3
    go_wp2_with fail
    refine (shown07 _).mono ?_
    rintro e V1 ⟨rfl, hk⟩
    replace hB := below_seq hB hk
    replace xa := xa.seq hk
    replace xb := xb.seq hk
    clear hk
    have xa0 := xa.cell 0 rfl
    have xaz0 := xa.frozen 0
    have xa1 := xa.cell 1 rfl
    have xaz1 := xa.frozen 1
    have xa2 := xa.cell 2 rfl
    have xaz2 := xa.frozen 2
    have xb0 := xb.cell 0 rfl
    have xbz0 := xb.frozen 0
    have xb1 := xb.cell 1 rfl
    have xbz1 := xb.frozen 1
    have xb2 := xb.cell 2 rfl
    have xbz2 := xb.frozen 2
    go_wp2
    go_ret
    exact ⟨rfl, hB⟩
  · skip
    by_cases c4 : 3 < a.kind
    · have d1 : ¬ a.kind < 1 := by omega
      have d2 : a.kind > 3 := by omega
      have hB : Below W.heap.size W ((W.alloc (.cells #[.int .i64 a.kind, .int .u64 (a.seq : Int), .int .u64 (a.data : Int)] 24)).alloc (.cells #[.int .i64 b.kind, .int .u64 (b.seq : Int), .int .u64 (b.data : Int)] 24)) := (((Below.refl _ _).alloc (Nat.le_refl _) _).alloc (by simp) _)
      have xa := ((Box.new 24 W [.int .i64 a.kind, .int .u64 (a.seq : Int), .int .u64 (a.data : Int)]).alloc (.cells #[.int .i64 b.kind, .int .u64 (b.seq : Int), .int .u64 (b.data : Int)] 24))
      have xb : Box 24 ((W.alloc (.cells #[.int .i64 a.kind, .int .u64 (a.seq : Int), .int .u64 (a.data : Int)] 24)).alloc (.cells #[.int .i64 b.kind, .int .u64 (b.seq : Int), .int .u64 (b.data : Int)] 24)) (W.heap.size + 1) [.int .i64 b.kind, .int .u64 (b.seq : Int), .int .u64 (b.data : Int)] := by have h := (Box.new 24 (W.alloc (.cells #[.int .i64 a.kind, .int .u64 (a.seq : Int), .int .u64 (a.data : Int)] 24)) [.int .i64 b.kind, .int .u64 (b.seq : Int), .int .u64 (b.data : Int)]); rwa [World.size_alloc] at h
      have le_xb : W.heap.size ≤ W.heap.size + 1 := by omega
      go_enter Try.func3, Try.ntmps3
      go_wp2_with fail
      refine (shown07 _).mono ?_
      rintro e V1 ⟨rfl, hk⟩
      replace hB := below_seq hB hk
      replace xa := xa.seq hk
      replace xb := xb.seq hk
      clear hk
      have xa0 := xa.cell 0 rfl
      have xaz0 := xa.frozen 0
      have xa1 := xa.cell 1 rfl
      have xaz1 := xa.frozen 1
      have xa2 := xa.cell 2 rfl
      have xaz2 := xa.frozen 2
      have xb0 := xb.cell 0 rfl
      have xbz0 := xb.frozen 0
      have xb1 := xb.cell 1 rfl
      have xbz1 := xb.frozen 1
      have xb2 := xb.cell 2 rfl
      have xbz2 := xb.frozen 2
      go_wp2
      go_ret
      exact ⟨rfl, hB⟩
    · skip
      by_cases c6 : b.kind < 1
      · have d1 : ¬ a.kind < 1 := by omega
        have d2 : ¬ a.kind > 3 := by omega
        have hB : Below W.heap.size W ((W.alloc (.cells #[.int .i64 a.kind, .int .u64 (a.seq : Int), .int .u64 (a.data : Int)] 24)).alloc (.cells #[.int .i64 b.kind, .int .u64 (b.seq : Int), .int .u64 (b.data : Int)] 24)) := (((Below.refl _ _).alloc (Nat.le_refl _) _).alloc (by simp) _)
        have xa := ((Box.new 24 W [.int .i64 a.kind, .int .u64 (a.seq : Int), .int .u64 (a.data : Int)]).alloc (.cells #[.int .i64 b.kind, .int .u64 (b.seq : Int), .int .u64 (b.data : Int)] 24))
        have xb : Box 24 ((W.alloc (.cells #[.int .i64 a.kind, .int .u64 (a.seq : Int), .int .u64 (a.data : Int)] 24)).alloc (.cells #[.int .i64 b.kind, .int .u64 (b.seq : Int), .int .u64 (b.data : Int)] 24)) (W.heap.size + 1) [.int .i64 b.kind, .int .u64 (b.seq : Int), .int .u64 (b.data : Int)] := by have h := (Box.new 24 (W.alloc (.cells #[.int .i64 a.kind, .int .u64 (a.seq : Int), .int .u64 (a.data : Int)] 24)) [.int .i64 b.kind, .int .u64 (b.seq : Int), .int .u64 (b.data : Int)]); rwa [World.size_alloc] at h
        have le_xb : W.heap.size ≤ W.heap.size + 1 := by omega
        go_enter Try.func3, Try.ntmps3
        go_wp2_with fail
        refine (shown07 _).mono ?_
        rintro e V1 ⟨rfl, hk⟩
        replace hB := below_seq hB hk
        replace xa := xa.seq hk
        replace xb := xb.seq hk
        clear hk
        have xa0 := xa.cell 0 rfl
        have xaz0 := xa.frozen 0
        have xa1 := xa.cell 1 rfl
        have xaz1 := xa.frozen 1
        have xa2 := xa.cell 2 rfl
        have xaz2 := xa.frozen 2
        have xb0 := xb.cell 0 rfl
        have xbz0 := xb.frozen 0
        have xb1 := xb.cell 1 rfl
        have xbz1 := xb.frozen 1
        have xb2 := xb.cell 2 rfl
        have xbz2 := xb.frozen 2
        go_wp2
        go_ret
        exact ⟨rfl, hB⟩
      · skip
        by_cases c8 : 3 < b.kind
        · have d1 : ¬ a.kind < 1 := by omega
          have d2 : ¬ a.kind > 3 := by omega
          have d3 : ¬ b.kind < 1 := by omega
          have d4 : b.kind > 3 := by omega
          have hB : Below W.heap.size W ((W.alloc (.cells #[.int .i64 a.kind, .int .u64 (a.seq : Int), .int .u64 (a.data : Int)] 24)).alloc (.cells #[.int .i64 b.kind, .int .u64 (b.seq : Int), .int .u64 (b.data : Int)] 24)) := (((Below.refl _ _).alloc (Nat.le_refl _) _).alloc (by simp) _)
          have xa := ((Box.new 24 W [.int .i64 a.kind, .int .u64 (a.seq : Int), .int .u64 (a.data : Int)]).alloc (.cells #[.int .i64 b.kind, .int .u64 (b.seq : Int), .int .u64 (b.data : Int)] 24))
          have xb : Box 24 ((W.alloc (.cells #[.int .i64 a.kind, .int .u64 (a.seq : Int), .int .u64 (a.data : Int)] 24)).alloc (.cells #[.int .i64 b.kind, .int .u64 (b.seq : Int), .int .u64 (b.data : Int)] 24)) (W.heap.size + 1) [.int .i64 b.kind, .int .u64 (b.seq : Int), .int .u64 (b.data : Int)] := by have h := (Box.new 24 (W.alloc (.cells #[.int .i64 a.kind, .int .u64 (a.seq : Int), .int .u64 (a.data : Int)] 24)) [.int .i64 b.kind, .int .u64 (b.seq : Int), .int .u64 (b.data : Int)]); rwa [World.size_alloc] at h
          have le_xb : W.heap.size ≤ W.heap.size + 1 := by omega
          go_enter Try.func3, Try.ntmps3
          go_wp2_with fail
          refine (shown07 _).mono ?_
          rintro e V1 ⟨rfl, hk⟩
          replace hB := below_seq hB hk
          replace xa := xa.seq hk
          replace xb := xb.seq hk
          clear hk
          have xa0 := xa.cell 0 rfl
          have xaz0 := xa.frozen 0
          have xa1 := xa.cell 1 rfl
          have xaz1 := xa.frozen 1
          have xa2 := xa.cell 2 rfl
          have xaz2 := xa.frozen 2
          have xb0 := xb.cell 0 rfl
          have xbz0 := xb.frozen 0
          have xb1 := xb.cell 1 rfl
          have xbz1 := xb.frozen 1
          have xb2 := xb.cell 2 rfl
          have xbz2 := xb.frozen 2
          go_wp2
          go_ret
          exact ⟨rfl, hB⟩
        · skip
          have d1 : ¬ a.kind < 1 := by omega
          have d2 : ¬ a.kind > 3 := by omega
          have d3 : ¬ b.kind < 1 := by omega
          have d4 : ¬ b.kind > 3 := by omega
          have ka : a.known := ⟨by omega, by omega⟩
          have kb : b.known := ⟨by omega, by omega⟩
          by_cases e : a = b
          · subst e
            have hB : Below W.heap.size W ((W.alloc (.cells #[.int .i64 a.kind, .int .u64 (a.seq : Int), .int .u64 (a.data : Int)] 24)).alloc (.cells #[.int .i64 a.kind, .int .u64 (a.seq : Int), .int .u64 (a.data : Int)] 24)) := (((Below.refl _ _).alloc (Nat.le_refl _) _).alloc (by simp) _)
            have xa := ((Box.new 24 W [.int .i64 a.kind, .int .u64 (a.seq : Int), .int .u64 (a.data : Int)]).alloc (.cells #[.int .i64 a.kind, .int .u64 (a.seq : Int), .int .u64 (a.data : Int)] 24))
            have xb : Box 24 ((W.alloc (.cells #[.int .i64 a.kind, .int .u64 (a.seq : Int), .int .u64 (a.data : Int)] 24)).alloc (.cells #[.int .i64 a.kind, .int .u64 (a.seq : Int), .int .u64 (a.data : Int)] 24)) (W.heap.size + 1) [.int .i64 a.kind, .int .u64 (a.seq : Int), .int .u64 (a.data : Int)] := by have h := (Box.new 24 (W.alloc (.cells #[.int .i64 a.kind, .int .u64 (a.seq : Int), .int .u64 (a.data : Int)] 24)) [.int .i64 a.kind, .int .u64 (a.seq : Int), .int .u64 (a.data : Int)]); rwa [World.size_alloc] at h
            have le_xb : W.heap.size ≤ W.heap.size + 1 := by omega
            go_enter Try.func3, Try.ntmps3
            go_wp2_with fail
            refine (shown07 _).mono ?_
            rintro e V1 ⟨rfl, hk⟩
            replace hB := below_seq hB hk
            replace xa := xa.seq hk
            replace xb := xb.seq hk
            clear hk
            have xa0 := xa.cell 0 rfl
            have xaz0 := xa.frozen 0
            have xa1 := xa.cell 1 rfl
            have xaz1 := xa.frozen 1
            have xa2 := xa.cell 2 rfl
            have xaz2 := xa.frozen 2
            have xb0 := xb.cell 0 rfl
            have xbz0 := xb.frozen 0
            have xb1 := xb.cell 1 rfl
            have xbz1 := xb.frozen 1
            have xb2 := xb.cell 2 rfl
            have xbz2 := xb.frozen 2
            go_wp2_with fail
            generalize V1 = V2 at *
            clear xa0 xaz0 xa1 xaz1 xa2 xaz2 xb0 xbz0 xb1 xbz1 xb2 xbz2
            replace hB := hB.drew
            replace xa := xa.drew
            replace xb := xb.drew
            refine wp_region_held_drew (S := fun w' => w'.cell? ⟨W.heap.size, 0, none⟩ = some (.int .i64 a.kind) ∧ w'.cell? ⟨W.heap.size, 1, none⟩ = some (.int .u64 (a.seq : Int)) ∧ w'.cell? ⟨W.heap.size, 2, none⟩ = some (.int .u64 (a.data : Int)) ∧ w'.cell? ⟨W.heap.size + 1, 0, none⟩ = some (.int .i64 a.kind) ∧ w'.cell? ⟨W.heap.size + 1, 1, none⟩ = some (.int .u64 (a.seq : Int)) ∧ w'.cell? ⟨W.heap.size + 1, 2, none⟩ = some (.int .u64 (a.data : Int))) (by kernel_rfl) ?_ (fun hHeld => ?_)
            · exact ⟨xa.cell 0 rfl, xa.cell 1 rfl, xa.cell 2 rfl, xb.cell 0 rfl, xb.cell 1 rfl, xb.cell 2 rfl⟩
            generalize V2.drew = V3 at *
            refine wpAnyH_take (i := 0) (v := ?_) rfl (by kernel_rfl) (by kernel_rfl) (by kernel_rfl) (fun _ _ _ h => h) (Or.inl ⟨by rfl, ?_⟩) (by assumption) ?_
            rotate_left
            · intro w hSw; (try dsimp only at hSw); go_simp; try with_reducible rfl
            try simp only [Act.put, List.getElem_toArray, List.getElem_cons_zero, List.getElem_cons_succ, List.setIfInBounds_toArray, List.set_cons_zero, List.set_cons_succ]
            refine wpAnyH_take (i := 2) (v := ?_) rfl (by kernel_rfl) (by kernel_rfl) (by kernel_rfl) (fun _ _ _ h => h) (Or.inl ⟨by rfl, ?_⟩) (by assumption) ?_
            rotate_left
            · intro w hSw; (try dsimp only at hSw); go_simp; try with_reducible rfl
            try simp only [Act.put, List.getElem_toArray, List.getElem_cons_zero, List.getElem_cons_succ, List.setIfInBounds_toArray, List.set_cons_zero, List.set_cons_succ]
            refine wpAnyH_take (i := 5) (v := ?_) rfl (by kernel_rfl) (by kernel_rfl) (by kernel_rfl) (fun _ _ _ h => h) (Or.inl ⟨by rfl, ?_⟩) (by assumption) ?_
            rotate_left
            · intro w hSw; (try dsimp only at hSw); go_simp; try with_reducible rfl
            try simp only [Act.put, List.getElem_toArray, List.getElem_cons_zero, List.getElem_cons_succ, List.setIfInBounds_toArray, List.set_cons_zero, List.set_cons_succ]
            refine wpAnyH_take (i := 6) (v := ?_) rfl (by kernel_rfl) (by kernel_rfl) (by kernel_rfl) (fun _ _ _ h => h) (Or.inl ⟨by rfl, ?_⟩) (by assumption) ?_
            rotate_left
            · intro w hSw; (try dsimp only at hSw); go_simp; try with_reducible rfl
            try simp only [Act.put, List.getElem_toArray, List.getElem_cons_zero, List.getElem_cons_succ, List.setIfInBounds_toArray, List.set_cons_zero, List.set_cons_succ]
            refine wpAnyH_take (i := 7) (v := ?_) rfl (by kernel_rfl) (by kernel_rfl) (by kernel_rfl) (fun _ _ _ h => h) (Or.inl ⟨by rfl, ?_⟩) (by assumption) ?_
            rotate_left
            · intro w hSw; (try dsimp only at hSw); go_simp; try with_reducible rfl
            try simp only [Act.put, List.getElem_toArray, List.getElem_cons_zero, List.getElem_cons_succ, List.setIfInBounds_toArray, List.set_cons_zero, List.set_cons_succ]
            refine wpAnyH_ready (rs := [1]) (by kernel_rfl) (by simp) ?_
            refine AllReadyH.cons rfl (fun K hK => ?_) AllReadyH.nil
            have xa0 := xa.cell 0 rfl
            have xaz0 := xa.frozen 0
            have xa1 := xa.cell 1 rfl
            have xaz1 := xa.frozen 1
            have xa2 := xa.cell 2 rfl
            have xaz2 := xa.frozen 2
            have xb0 := xb.cell 0 rfl
            have xbz0 := xb.frozen 0
            have xb1 := xb.cell 1 rfl
            have xbz1 := xb.frozen 1
            have xb2 := xb.cell 2 rfl
            have xbz2 := xb.frozen 2
            go_simp
            refine (own07Encode _ _ ha).mono ?_
            rintro e V4 ⟨rfl, hk⟩
            clear xa0 xaz0 xa1 xaz1 xa2 xaz2 xb0 xbz0 xb1 xbz1 xb2 xbz2
            replace hB := below_seq hB hk
            replace xa := xa.seq hk
            replace xb := xb.seq hk
            clear hk
            have xa0 := xa.cell 0 rfl
            have xaz0 := xa.frozen 0
            have xa1 := xa.cell 1 rfl
            have xaz1 := xa.frozen 1
            have xa2 := xa.cell 2 rfl
            have xaz2 := xa.frozen 2
            have xb0 := xb.cell 0 rfl
            have xbz0 := xb.frozen 0
            have xb1 := xb.cell 1 rfl
            have xbz1 := xb.frozen 1
            have xb2 := xb.cell 2 rfl
            have xbz2 := xb.frozen 2
            try go_wp2_with fail
            clear xa0 xaz0 xa1 xaz1 xa2 xaz2 xb0 xbz0 xb1 xbz1 xb2 xbz2
            clear hHeld
            refine hK.out _ _ ?_ (fun hHeld => ?_)
            · exact ⟨xa.cell 0 rfl, xa.cell 1 rfl, xa.cell 2 rfl, xb.cell 0 rfl, xb.cell 1 rfl, xb.cell 2 rfl⟩
            clear hK K
            try simp only [Act.put, List.getElem_toArray, List.getElem_cons_zero, List.getElem_cons_succ, List.setIfInBounds_toArray, List.set_cons_zero, List.set_cons_succ]
            refine wpAnyH_ready (rs := [3]) (by kernel_rfl) (by simp) ?_
            refine AllReadyH.cons rfl (fun K hK => ?_) AllReadyH.nil
            have xa0 := xa.cell 0 rfl
            have xaz0 := xa.frozen 0
            have xa1 := xa.cell 1 rfl
            have xaz1 := xa.frozen 1
            have xa2 := xa.cell 2 rfl
            have xaz2 := xa.frozen 2
            have xb0 := xb.cell 0 rfl
            have xbz0 := xb.frozen 0
            have xb1 := xb.cell 1 rfl
            have xbz1 := xb.frozen 1
            have xb2 := xb.cell 2 rfl
            have xbz2 := xb.frozen 2
            go_simp
            refine (own07Encode _ _ ha).mono ?_
            rintro e V5 ⟨rfl, hk⟩
            clear xa0 xaz0 xa1 xaz1 xa2 xaz2 xb0 xbz0 xb1 xbz1 xb2 xbz2
            replace hB := below_seq hB hk
            replace xa := xa.seq hk
            replace xb := xb.seq hk
            clear hk
            have xa0 := xa.cell 0 rfl
            have xaz0 := xa.frozen 0
            have xa1 := xa.cell 1 rfl
            have xaz1 := xa.frozen 1
            have xa2 := xa.cell 2 rfl
            have xaz2 := xa.frozen 2
            have xb0 := xb.cell 0 rfl
            have xbz0 := xb.frozen 0
            have xb1 := xb.cell 1 rfl
            have xbz1 := xb.frozen 1
            have xb2 := xb.cell 2 rfl
            have xbz2 := xb.frozen 2
            try go_wp2_with fail
            clear xa0 xaz0 xa1 xaz1 xa2 xaz2 xb0 xbz0 xb1 xbz1 xb2 xbz2
            clear hHeld
            refine hK.out _ _ ?_ (fun hHeld => ?_)
            · exact ⟨xa.cell 0 rfl, xa.cell 1 rfl, xa.cell 2 rfl, xb.cell 0 rfl, xb.cell 1 rfl, xb.cell 2 rfl⟩
            clear hK K
            try simp only [Act.put, List.getElem_toArray, List.getElem_cons_zero, List.getElem_cons_succ, List.setIfInBounds_toArray, List.set_cons_zero, List.set_cons_succ]
            refine wpAnyH_take (i := 4) (v := ?_) rfl (by kernel_rfl) (by kernel_rfl) (by kernel_rfl) (fun _ _ _ h => h) (Or.inl ⟨by rfl, ?_⟩) (by assumption) ?_
            rotate_left
            · intro w hSw; (try dsimp only at hSw); go_simp; try with_reducible rfl
            try simp only [Act.put, List.getElem_toArray, List.getElem_cons_zero, List.getElem_cons_succ, List.setIfInBounds_toArray, List.set_cons_zero, List.set_cons_succ]
            refine wpAnyH_take (i := 8) (v := ?_) rfl (by kernel_rfl) (by kernel_rfl) (by kernel_rfl) (fun _ _ _ h => h) (Or.inl ⟨by rfl, ?_⟩) (by assumption) ?_
            rotate_left
            · intro w hSw; (try dsimp only at hSw); go_simp; try with_reducible rfl
            try simp only [Act.put, List.getElem_toArray, List.getElem_cons_zero, List.getElem_cons_succ, List.setIfInBounds_toArray, List.set_cons_zero, List.set_cons_succ]
            refine wpAnyH_take (i := 9) (v := ?_) rfl (by kernel_rfl) (by kernel_rfl) (by kernel_rfl) (fun _ _ _ h => h) (Or.inl ⟨by rfl, ?_⟩) (by assumption) ?_
            rotate_left
            · intro w hSw; (try dsimp only at hSw); go_simp; try with_reducible rfl
            try simp only [Act.put, List.getElem_toArray, List.getElem_cons_zero, List.getElem_cons_succ, List.setIfInBounds_toArray, List.set_cons_zero, List.set_cons_succ]
            refine wpAnyH_take (i := 10) (v := ?_) rfl (by kernel_rfl) (by kernel_rfl) (by kernel_rfl) (fun _ _ _ h => h) (Or.inl ⟨by rfl, ?_⟩) (by assumption) ?_
            rotate_left
            · intro w hSw; (try dsimp only at hSw); go_simp; try with_reducible rfl
            try simp only [Act.put, List.getElem_toArray, List.getElem_cons_zero, List.getElem_cons_succ, List.setIfInBounds_toArray, List.set_cons_zero, List.set_cons_succ]
            refine wpAnyH_take (i := 12) (v := ?_) rfl (by kernel_rfl) (by kernel_rfl) (by kernel_rfl) (fun _ _ _ h => h) (Or.inl ⟨by rfl, ?_⟩) (by assumption) ?_
            rotate_left
            · intro w hSw; (try dsimp only at hSw); go_simp; try with_reducible rfl
            try simp only [Act.put, List.getElem_toArray, List.getElem_cons_zero, List.getElem_cons_succ, List.setIfInBounds_toArray, List.set_cons_zero, List.set_cons_succ]
            refine wpAnyH_take (i := 15) (v := ?_) rfl (by kernel_rfl) (by kernel_rfl) (by kernel_rfl) (fun _ _ _ h => h) (Or.inl ⟨by rfl, ?_⟩) (by assumption) ?_
            rotate_left
            · intro w hSw; (try dsimp only at hSw); go_simp; try with_reducible rfl
            try simp only [Act.put, List.getElem_toArray, List.getElem_cons_zero, List.getElem_cons_succ, List.setIfInBounds_toArray, List.set_cons_zero, List.set_cons_succ]
            refine wpAnyH_take (i := 16) (v := ?_) rfl (by kernel_rfl) (by kernel_rfl) (by kernel_rfl) (fun _ _ _ h => h) (Or.inl ⟨by rfl, ?_⟩) (by assumption) ?_
            rotate_left
            · intro w hSw; (try dsimp only at hSw); go_simp; try with_reducible rfl
            try simp only [Act.put, List.getElem_toArray, List.getElem_cons_zero, List.getElem_cons_succ, List.setIfInBounds_toArray, List.set_cons_zero, List.set_cons_succ]
            refine wpAnyH_take (i := 17) (v := ?_) rfl (by kernel_rfl) (by kernel_rfl) (by kernel_rfl) (fun _ _ _ h => h) (Or.inl ⟨by rfl, ?_⟩) (by assumption) ?_
            rotate_left
            · intro w hSw; (try dsimp only at hSw); go_simp; try with_reducible rfl
            try simp only [Act.put, List.getElem_toArray, List.getElem_cons_zero, List.getElem_cons_succ, List.setIfInBounds_toArray, List.set_cons_zero, List.set_cons_succ]
            refine wpAnyH_ready (rs := [11]) (by kernel_rfl) (by simp) ?_
            refine AllReadyH.cons rfl (fun K hK => ?_) AllReadyH.nil
            have xa0 := xa.cell 0 rfl
            have xaz0 := xa.frozen 0
            have xa1 := xa.cell 1 rfl
            have xaz1 := xa.frozen 1
            have xa2 := xa.cell 2 rfl
            have xaz2 := xa.frozen 2
            have xb0 := xb.cell 0 rfl
            have xbz0 := xb.frozen 0
            have xb1 := xb.cell 1 rfl
            have xbz1 := xb.frozen 1
            have xb2 := xb.cell 2 rfl
            have xbz2 := xb.frozen 2
            go_simp
            refine (own07Body _ _ ha).mono ?_
            rintro e V6 ⟨rfl, hk⟩
            clear xa0 xaz0 xa1 xaz1 xa2 xaz2 xb0 xbz0 xb1 xbz1 xb2 xbz2
            replace hB := below_seq hB hk
            replace xa := xa.seq hk
            replace xb := xb.seq hk
            clear hk
            have xa0 := xa.cell 0 rfl
            have xaz0 := xa.frozen 0
            have xa1 := xa.cell 1 rfl
            have xaz1 := xa.frozen 1
            have xa2 := xa.cell 2 rfl
            have xaz2 := xa.frozen 2
            have xb0 := xb.cell 0 rfl
            have xbz0 := xb.frozen 0
            have xb1 := xb.cell 1 rfl
            have xbz1 := xb.frozen 1
            have xb2 := xb.cell 2 rfl
            have xbz2 := xb.frozen 2
            try go_wp2_with fail
            clear xa0 xaz0 xa1 xaz1 xa2 xaz2 xb0 xbz0 xb1 xbz1 xb2 xbz2
            clear hHeld
            refine hK.out _ _ ?_ (fun hHeld => ?_)
            · exact ⟨xa.cell 0 rfl, xa.cell 1 rfl, xa.cell 2 rfl, xb.cell 0 rfl, xb.cell 1 rfl, xb.cell 2 rfl⟩
            clear hK K
            try simp only [Act.put, List.getElem_toArray, List.getElem_cons_zero, List.getElem_cons_succ, List.setIfInBounds_toArray, List.set_cons_zero, List.set_cons_succ]
            refine wpAnyH_ready (rs := [13]) (by kernel_rfl) (by simp) ?_
            refine AllReadyH.cons rfl (fun K hK => ?_) AllReadyH.nil
            have xa0 := xa.cell 0 rfl
            have xaz0 := xa.frozen 0
            have xa1 := xa.cell 1 rfl
            have xaz1 := xa.frozen 1
            have xa2 := xa.cell 2 rfl
            have xaz2 := xa.frozen 2
            have xb0 := xb.cell 0 rfl
            have xbz0 := xb.frozen 0
            have xb1 := xb.cell 1 rfl
            have xbz1 := xb.frozen 1
            have xb2 := xb.cell 2 rfl
            have xbz2 := xb.frozen 2
            go_simp
            refine (own07Body _ _ ha).mono ?_
            rintro e V7 ⟨rfl, hk⟩
            clear xa0 xaz0 xa1 xaz1 xa2 xaz2 xb0 xbz0 xb1 xbz1 xb2 xbz2
            replace hB := below_seq hB hk
            replace xa := xa.seq hk
            replace xb := xb.seq hk
            clear hk
            have xa0 := xa.cell 0 rfl
            have xaz0 := xa.frozen 0
            have xa1 := xa.cell 1 rfl
            have xaz1 := xa.frozen 1
            have xa2 := xa.cell 2 rfl
            have xaz2 := xa.frozen 2
            have xb0 := xb.cell 0 rfl
            have xbz0 := xb.frozen 0
            have xb1 := xb.cell 1 rfl
            have xbz1 := xb.frozen 1
            have xb2 := xb.cell 2 rfl
            have xbz2 := xb.frozen 2
            try go_wp2_with fail
            clear xa0 xaz0 xa1 xaz1 xa2 xaz2 xb0 xbz0 xb1 xbz1 xb2 xbz2
            clear hHeld
            refine hK.out _ _ ?_ (fun hHeld => ?_)
            · exact ⟨xa.cell 0 rfl, xa.cell 1 rfl, xa.cell 2 rfl, xb.cell 0 rfl, xb.cell 1 rfl, xb.cell 2 rfl⟩
            clear hK K
            try simp only [Act.put, List.getElem_toArray, List.getElem_cons_zero, List.getElem_cons_succ, List.setIfInBounds_toArray, List.set_cons_zero, List.set_cons_succ]
            refine wpAnyH_take (i := 14) (v := ?_) rfl (by kernel_rfl) (by kernel_rfl) (by kernel_rfl) (fun _ _ _ h => h) (Or.inl ⟨by rfl, ?_⟩) (by assumption) ?_
            rotate_left
            · intro w hSw; (try dsimp only at hSw); go_simp; try with_reducible rfl
            try simp only [Act.put, List.getElem_toArray, List.getElem_cons_zero, List.getElem_cons_succ, List.setIfInBounds_toArray, List.set_cons_zero, List.set_cons_succ]
            refine wpAnyH_take (i := 18) (v := ?_) rfl (by kernel_rfl) (by kernel_rfl) (by kernel_rfl) (fun _ _ _ h => h) (Or.inl ⟨by rfl, ?_⟩) (by assumption) ?_
            rotate_left
            · intro w hSw; (try dsimp only at hSw); go_simp; try with_reducible rfl
            try simp only [Act.put, List.getElem_toArray, List.getElem_cons_zero, List.getElem_cons_succ, List.setIfInBounds_toArray, List.set_cons_zero, List.set_cons_succ]
            refine wpAnyH_take (i := 19) (v := ?_) rfl (by kernel_rfl) (by kernel_rfl) (by kernel_rfl) (fun _ _ _ h => h) (Or.inl ⟨by rfl, ?_⟩) (by assumption) ?_
            rotate_left
            · intro w hSw; (try dsimp only at hSw); go_simp; try with_reducible rfl
            try simp only [Act.put, List.getElem_toArray, List.getElem_cons_zero, List.getElem_cons_succ, List.setIfInBounds_toArray, List.set_cons_zero, List.set_cons_succ]
            refine wpAnyH_take (i := 20) (v := ?_) rfl (by kernel_rfl) (by kernel_rfl) (by kernel_rfl) (fun _ _ _ h => h) (Or.inl ⟨by rfl, ?_⟩) (by assumption) ?_
            rotate_left
            · intro w hSw; (try dsimp only at hSw); go_simp; try with_reducible rfl
            try simp only [Act.put, List.getElem_toArray, List.getElem_cons_zero, List.getElem_cons_succ, List.setIfInBounds_toArray, List.set_cons_zero, List.set_cons_succ]
            refine wpAnyH_done (by kernel_rfl) ?_ _
            clear hHeld
            have xa0 := xa.cell 0 rfl
            have xaz0 := xa.frozen 0
            have xa1 := xa.cell 1 rfl
            have xaz1 := xa.frozen 1
            have xa2 := xa.cell 2 rfl
            have xaz2 := xa.frozen 2
            have xb0 := xb.cell 0 rfl
            have xbz0 := xb.frozen 0
            have xb1 := xb.cell 1 rfl
            have xbz1 := xb.frozen 1
            have xb2 := xb.cell 2 rfl
            have xbz2 := xb.frozen 2
            go_wp2
            go_ret
            exact ⟨rfl, hB⟩
          · have f1 := beqF (fun h => e (encL_inj ha hb ka kb (bl_bs (encL a) ▸ bl_bs (encL b) ▸ congrArg bl h)))
            have f2 := beqF (fun h => e (bodyL_inj ha hb ka kb (bl_bs (bodyL a) ▸ bl_bs (bodyL b) ▸ congrArg bl h)))
            clear c2 c4 c6 c8 ka kb
            have TA1 := Lib.hid (fun (W : World) => own07Encode a W ha)
            have TB1 := Lib.hid (fun (W : World) => own07Encode b W hb)
            have TA2 := Lib.hid (fun (W : World) => own07Body a W ha)
            have TB2 := Lib.hid (fun (W : World) => own07Body b W hb)
            generalize bs (encL a) = u1 at *
            generalize bs (encL b) = u2 at *
            generalize bs (bodyL a) = v1 at *
            generalize bs (bodyL b) = v2 at *
            clear ha hb
            obtain ⟨k1, s1, e1⟩ := a
            obtain ⟨k2, s2, e2⟩ := b
            dsimp only at *
            by_cases q1 : k1 = k2
            · subst q1
              by_cases q2 : s1 = s2
              · subst q2
                by_cases q3 : e1 = e2
                · exact absurd (by rw [q3]) e
                · clear e
                  have f3 : ¬ (e1 : Int) = (e2 : Int) := by omega
                  have hB : Below W.heap.size W ((W.alloc (.cells #[.int .i64 k1, .int .u64 (s1 : Int), .int .u64 (e1 : Int)] 24)).alloc (.cells #[.int .i64 k1, .int .u64 (s1 : Int), .int .u64 (e2 : Int)] 24)) := (((Below.refl _ _).alloc (Nat.le_refl _) _).alloc (by simp) _)
                  have xa := ((Box.new 24 W [.int .i64 k1, .int .u64 (s1 : Int), .int .u64 (e1 : Int)]).alloc (.cells #[.int .i64 k1, .int .u64 (s1 : Int), .int .u64 (e2 : Int)] 24))
                  have xb : Box 24 ((W.alloc (.cells #[.int .i64 k1, .int .u64 (s1 : Int), .int .u64 (e1 : Int)] 24)).alloc (.cells #[.int .i64 k1, .int .u64 (s1 : Int), .int .u64 (e2 : Int)] 24)) (W.heap.size + 1) [.int .i64 k1, .int .u64 (s1 : Int), .int .u64 (e2 : Int)] := by have h := (Box.new 24 (W.alloc (.cells #[.int .i64 k1, .int .u64 (s1 : Int), .int .u64 (e1 : Int)] 24)) [.int .i64 k1, .int .u64 (s1 : Int), .int .u64 (e2 : Int)]); rwa [World.size_alloc] at h
                  have le_xb : W.heap.size ≤ W.heap.size + 1 := by omega
                  go_enter Try.func3, Try.ntmps3
                  go_wp2_with fail
                  refine (shown07 _).mono ?_
                  rintro e V1 ⟨rfl, hk⟩
                  replace hB := below_seq hB hk
                  replace xa := xa.seq hk
                  replace xb := xb.seq hk
                  clear hk
                  have xa0 := xa.cell 0 rfl
                  have xaz0 := xa.frozen 0
                  have xa1 := xa.cell 1 rfl
                  have xaz1 := xa.frozen 1
                  have xa2 := xa.cell 2 rfl
                  have xaz2 := xa.frozen 2
                  have xb0 := xb.cell 0 rfl
                  have xbz0 := xb.frozen 0
                  have xb1 := xb.cell 1 rfl
                  have xbz1 := xb.frozen 1
                  have xb2 := xb.cell 2 rfl
                  have xbz2 := xb.frozen 2
                  go_wp2_with fail
                  generalize V1 = V2 at *
                  clear xa0 xaz0 xa1 xaz1 xa2 xaz2 xb0 xbz0 xb1 xbz1 xb2 xbz2
                  replace hB := hB.drew
                  replace xa := xa.drew
                  replace xb := xb.drew
                  refine wp_region_held_drew (S := fun w' => w'.cell? ⟨W.heap.size, 0, none⟩ = some (.int .i64 k1) ∧ w'.cell? ⟨W.heap.size, 1, none⟩ = some (.int .u64 (s1 : Int)) ∧ w'.cell? ⟨W.heap.size, 2, none⟩ = some (.int .u64 (e1 : Int)) ∧ w'.cell? ⟨W.heap.size + 1, 0, none⟩ = some (.int .i64 k1) ∧ w'.cell? ⟨W.heap.size + 1, 1, none⟩ = some (.int .u64 (s1 : Int)) ∧ w'.cell? ⟨W.heap.size + 1, 2, none⟩ = some (.int .u64 (e2 : Int))) (by kernel_rfl) ?_ (fun hHeld => ?_)
                  · exact ⟨xa.cell 0 rfl, xa.cell 1 rfl, xa.cell 2 rfl, xb.cell 0 rfl, xb.cell 1 rfl, xb.cell 2 rfl⟩
                  generalize V2.drew = V3 at *
                  refine wpAnyH_take (i := 0) (v := ?_) rfl (by kernel_rfl) (by kernel_rfl) (by kernel_rfl) (fun _ _ _ h => h) (Or.inl ⟨by rfl, ?_⟩) (by assumption) ?_
                  rotate_left
                  · intro w hSw; (try dsimp only at hSw); go_simp; try with_reducible rfl
                  try simp only [Act.put, List.getElem_toArray, List.getElem_cons_zero, List.getElem_cons_succ, List.setIfInBounds_toArray, List.set_cons_zero, List.set_cons_succ]
                  refine wpAnyH_take (i := 2) (v := ?_) rfl (by kernel_rfl) (by kernel_rfl) (by kernel_rfl) (fun _ _ _ h => h) (Or.inl ⟨by rfl, ?_⟩) (by assumption) ?_
                  rotate_left
                  · intro w hSw; (try dsimp only at hSw); go_simp; try with_reducible rfl
                  try simp only [Act.put, List.getElem_toArray, List.getElem_cons_zero, List.getElem_cons_succ, List.setIfInBounds_toArray, List.set_cons_zero, List.set_cons_succ]
                  refine wpAnyH_take (i := 5) (v := ?_) rfl (by kernel_rfl) (by kernel_rfl) (by kernel_rfl) (fun _ _ _ h => h) (Or.inl ⟨by rfl, ?_⟩) (by assumption) ?_
                  rotate_left
                  · intro w hSw; (try dsimp only at hSw); go_simp; try with_reducible rfl
                  try simp only [Act.put, List.getElem_toArray, List.getElem_cons_zero, List.getElem_cons_succ, List.setIfInBounds_toArray, List.set_cons_zero, List.set_cons_succ]
                  refine wpAnyH_take (i := 6) (v := ?_) rfl (by kernel_rfl) (by kernel_rfl) (by kernel_rfl) (fun _ _ _ h => h) (Or.inl ⟨by rfl, ?_⟩) (by assumption) ?_
                  rotate_left
                  · intro w hSw; (try dsimp only at hSw); go_simp; try with_reducible rfl
                  try simp only [Act.put, List.getElem_toArray, List.getElem_cons_zero, List.getElem_cons_succ, List.setIfInBounds_toArray, List.set_cons_zero, List.set_cons_succ]
                  refine wpAnyH_take (i := 7) (v := ?_) rfl (by kernel_rfl) (by kernel_rfl) (by kernel_rfl) (fun _ _ _ h => h) (Or.inl ⟨by rfl, ?_⟩) (by assumption) ?_
                  rotate_left
                  · intro w hSw; (try dsimp only at hSw); go_simp; try with_reducible rfl
                  try simp only [Act.put, List.getElem_toArray, List.getElem_cons_zero, List.getElem_cons_succ, List.setIfInBounds_toArray, List.set_cons_zero, List.set_cons_succ]
                  refine wpAnyH_ready (rs := [1]) (by kernel_rfl) (by simp) ?_
                  refine AllReadyH.cons rfl (fun K hK => ?_) AllReadyH.nil
                  have xa0 := xa.cell 0 rfl
                  have xaz0 := xa.frozen 0
                  have xa1 := xa.cell 1 rfl
                  have xaz1 := xa.frozen 1
                  have xa2 := xa.cell 2 rfl
                  have xaz2 := xa.frozen 2
                  have xb0 := xb.cell 0 rfl
                  have xbz0 := xb.frozen 0
                  have xb1 := xb.cell 1 rfl
                  have xbz1 := xb.frozen 1
                  have xb2 := xb.cell 2 rfl
                  have xbz2 := xb.frozen 2
                  go_simp
                  refine (TA1.out _).mono ?_
                  rintro e V4 ⟨rfl, hk⟩
                  clear xa0 xaz0 xa1 xaz1 xa2 xaz2 xb0 xbz0 xb1 xbz1 xb2 xbz2
                  replace hB := below_seq hB hk
                  replace xa := xa.seq hk
                  replace xb := xb.seq hk
                  clear hk
                  have xa0 := xa.cell 0 rfl
                  have xaz0 := xa.frozen 0
                  have xa1 := xa.cell 1 rfl
                  have xaz1 := xa.frozen 1
                  have xa2 := xa.cell 2 rfl
                  have xaz2 := xa.frozen 2
                  have xb0 := xb.cell 0 rfl
                  have xbz0 := xb.frozen 0
                  have xb1 := xb.cell 1 rfl
                  have xbz1 := xb.frozen 1
                  have xb2 := xb.cell 2 rfl
                  have xbz2 := xb.frozen 2
                  try go_wp2_with fail
                  clear xa0 xaz0 xa1 xaz1 xa2 xaz2 xb0 xbz0 xb1 xbz1 xb2 xbz2
                  clear hHeld
                  refine hK.out _ _ ?_ (fun hHeld => ?_)
                  · exact ⟨xa.cell 0 rfl, xa.cell 1 rfl, xa.cell 2 rfl, xb.cell 0 rfl, xb.cell 1 rfl, xb.cell 2 rfl⟩
                  clear hK K
                  try simp only [Act.put, List.getElem_toArray, List.getElem_cons_zero, List.getElem_cons_succ, List.setIfInBounds_toArray, List.set_cons_zero, List.set_cons_succ]
                  refine wpAnyH_ready (rs := [3]) (by kernel_rfl) (by simp) ?_
                  refine AllReadyH.cons rfl (fun K hK => ?_) AllReadyH.nil
                  have xa0 := xa.cell 0 rfl
                  have xaz0 := xa.frozen 0
                  have xa1 := xa.cell 1 rfl
                  have xaz1 := xa.frozen 1
                  have xa2 := xa.cell 2 rfl
                  have xaz2 := xa.frozen 2
                  have xb0 := xb.cell 0 rfl
                  have xbz0 := xb.frozen 0
                  have xb1 := xb.cell 1 rfl
                  have xbz1 := xb.frozen 1
                  have xb2 := xb.cell 2 rfl
                  have xbz2 := xb.frozen 2
                  go_simp
                  refine (TB1.out _).mono ?_
                  rintro e V5 ⟨rfl, hk⟩
                  clear xa0 xaz0 xa1 xaz1 xa2 xaz2 xb0 xbz0 xb1 xbz1 xb2 xbz2
                  replace hB := below_seq hB hk
                  replace xa := xa.seq hk
                  replace xb := xb.seq hk
                  clear hk
                  have xa0 := xa.cell 0 rfl
                  have xaz0 := xa.frozen 0
                  have xa1 := xa.cell 1 rfl
                  have xaz1 := xa.frozen 1
                  have xa2 := xa.cell 2 rfl
                  have xaz2 := xa.frozen 2
                  have xb0 := xb.cell 0 rfl
                  have xbz0 := xb.frozen 0
                  have xb1 := xb.cell 1 rfl
                  have xbz1 := xb.frozen 1
                  have xb2 := xb.cell 2 rfl
                  have xbz2 := xb.frozen 2
                  try go_wp2_with fail
                  clear xa0 xaz0 xa1 xaz1 xa2 xaz2 xb0 xbz0 xb1 xbz1 xb2 xbz2
                  clear hHeld
                  refine hK.out _ _ ?_ (fun hHeld => ?_)
                  · exact ⟨xa.cell 0 rfl, xa.cell 1 rfl, xa.cell 2 rfl, xb.cell 0 rfl, xb.cell 1 rfl, xb.cell 2 rfl⟩
                  clear hK K
                  try simp only [Act.put, List.getElem_toArray, List.getElem_cons_zero, List.getElem_cons_succ, List.setIfInBounds_toArray, List.set_cons_zero, List.set_cons_succ]
                  refine wpAnyH_take (i := 4) (v := ?_) rfl (by kernel_rfl) (by kernel_rfl) (by kernel_rfl) (fun _ _ _ h => h) (Or.inl ⟨by rfl, ?_⟩) (by assumption) ?_
                  rotate_left
                  · intro w hSw; (try dsimp only at hSw); go_simp; try with_reducible rfl
                  try simp only [Act.put, List.getElem_toArray, List.getElem_cons_zero, List.getElem_cons_succ, List.setIfInBounds_toArray, List.set_cons_zero, List.set_cons_succ]
                  refine wpAnyH_take (i := 8) (v := ?_) rfl (by kernel_rfl) (by kernel_rfl) (by kernel_rfl) (fun _ _ _ h => h) (Or.inl ⟨by rfl, ?_⟩) (by assumption) ?_
                  rotate_left
                  · intro w hSw; (try dsimp only at hSw); go_simp; try with_reducible rfl
                  try simp only [Act.put, List.getElem_toArray, List.getElem_cons_zero, List.getElem_cons_succ, List.setIfInBounds_toArray, List.set_cons_zero, List.set_cons_succ]
                  refine wpAnyH_take (i := 9) (v := ?_) rfl (by kernel_rfl) (by kernel_rfl) (by kernel_rfl) (fun _ _ _ h => h) (Or.inl ⟨by rfl, ?_⟩) (by assumption) ?_
                  rotate_left
                  · intro w hSw; (try dsimp only at hSw); go_simp; try with_reducible rfl
                  try simp only [Act.put, List.getElem_toArray, List.getElem_cons_zero, List.getElem_cons_succ, List.setIfInBounds_toArray, List.set_cons_zero, List.set_cons_succ]
                  refine wpAnyH_take (i := 10) (v := ?_) rfl (by kernel_rfl) (by kernel_rfl) (by kernel_rfl) (fun _ _ _ h => h) (Or.inl ⟨by rfl, ?_⟩) (by assumption) ?_
                  rotate_left
                  · intro w hSw; (try dsimp only at hSw); go_simp; try with_reducible rfl
                  try simp only [Act.put, List.getElem_toArray, List.getElem_cons_zero, List.getElem_cons_succ, List.setIfInBounds_toArray, List.set_cons_zero, List.set_cons_succ]
                  refine wpAnyH_take (i := 12) (v := ?_) rfl (by kernel_rfl) (by kernel_rfl) (by kernel_rfl) (fun _ _ _ h => h) (Or.inl ⟨by rfl, ?_⟩) (by assumption) ?_
                  rotate_left
                  · intro w hSw; (try dsimp only at hSw); go_simp; try with_reducible rfl
                  try simp only [Act.put, List.getElem_toArray, List.getElem_cons_zero, List.getElem_cons_succ, List.setIfInBounds_toArray, List.set_cons_zero, List.set_cons_succ]
                  refine wpAnyH_take (i := 15) (v := ?_) rfl (by kernel_rfl) (by kernel_rfl) (by kernel_rfl) (fun _ _ _ h => h) (Or.inl ⟨by rfl, ?_⟩) (by assumption) ?_
                  rotate_left
                  · intro w hSw; (try dsimp only at hSw); go_simp; try with_reducible rfl
                  try simp only [Act.put, List.getElem_toArray, List.getElem_cons_zero, List.getElem_cons_succ, List.setIfInBounds_toArray, List.set_cons_zero, List.set_cons_succ]
                  refine wpAnyH_take (i := 16) (v := ?_) rfl (by kernel_rfl) (by kernel_rfl) (by kernel_rfl) (fun _ _ _ h => h) (Or.inl ⟨by rfl, ?_⟩) (by assumption) ?_
                  rotate_left
                  · intro w hSw; (try dsimp only at hSw); go_simp; try with_reducible rfl
                  try simp only [Act.put, List.getElem_toArray, List.getElem_cons_zero, List.getElem_cons_succ, List.setIfInBounds_toArray, List.set_cons_zero, List.set_cons_succ]
                  refine wpAnyH_take (i := 17) (v := ?_) rfl (by kernel_rfl) (by kernel_rfl) (by kernel_rfl) (fun _ _ _ h => h) (Or.inl ⟨by rfl, ?_⟩) (by assumption) ?_
                  rotate_left
                  · intro w hSw; (try dsimp only at hSw); go_simp; try with_reducible rfl
                  try simp only [Act.put, List.getElem_toArray, List.getElem_cons_zero, List.getElem_cons_succ, List.setIfInBounds_toArray, List.set_cons_zero, List.set_cons_succ]
                  refine wpAnyH_ready (rs := [11]) (by kernel_rfl) (by simp) ?_
                  refine AllReadyH.cons rfl (fun K hK => ?_) AllReadyH.nil
                  have xa0 := xa.cell 0 rfl
                  have xaz0 := xa.frozen 0
                  have xa1 := xa.cell 1 rfl
                  have xaz1 := xa.frozen 1
                  have xa2 := xa.cell 2 rfl
                  have xaz2 := xa.frozen 2
                  have xb0 := xb.cell 0 rfl
                  have xbz0 := xb.frozen 0
                  have xb1 := xb.cell 1 rfl
                  have xbz1 := xb.frozen 1
                  have xb2 := xb.cell 2 rfl
                  have xbz2 := xb.frozen 2
                  go_simp
                  refine (TA2.out _).mono ?_
                  rintro e V6 ⟨rfl, hk⟩
                  clear xa0 xaz0 xa1 xaz1 xa2 xaz2 xb0 xbz0 xb1 xbz1 xb2 xbz2
                  replace hB := below_seq hB hk
                  replace xa := xa.seq hk
                  replace xb := xb.seq hk
                  clear hk
                  have xa0 := xa.cell 0 rfl
                  have xaz0 := xa.frozen 0
                  have xa1 := xa.cell 1 rfl
                  have xaz1 := xa.frozen 1
                  have xa2 := xa.cell 2 rfl
                  have xaz2 := xa.frozen 2
                  have xb0 := xb.cell 0 rfl
                  have xbz0 := xb.frozen 0
                  have xb1 := xb.cell 1 rfl
                  have xbz1 := xb.frozen 1
                  have xb2 := xb.cell 2 rfl
                  have xbz2 := xb.frozen 2
                  try go_wp2_with fail
                  clear xa0 xaz0 xa1 xaz1 xa2 xaz2 xb0 xbz0 xb1 xbz1 xb2 xbz2
                  clear hHeld
                  refine hK.out _ _ ?_ (fun hHeld => ?_)
                  · exact ⟨xa.cell 0 rfl, xa.cell 1 rfl, xa.cell 2 rfl, xb.cell 0 rfl, xb.cell 1 rfl, xb.cell 2 rfl⟩
                  clear hK K
                  try simp only [Act.put, List.getElem_toArray, List.getElem_cons_zero, List.getElem_cons_succ, List.setIfInBounds_toArray, List.set_cons_zero, List.set_cons_succ]
                  refine wpAnyH_ready (rs := [13]) (by kernel_rfl) (by simp) ?_
                  refine AllReadyH.cons rfl (fun K hK => ?_) AllReadyH.nil
                  have xa0 := xa.cell 0 rfl
                  have xaz0 := xa.frozen 0
                  have xa1 := xa.cell 1 rfl
                  have xaz1 := xa.frozen 1
                  have xa2 := xa.cell 2 rfl
                  have xaz2 := xa.frozen 2
                  have xb0 := xb.cell 0 rfl
                  have xbz0 := xb.frozen 0
                  have xb1 := xb.cell 1 rfl
                  have xbz1 := xb.frozen 1
                  have xb2 := xb.cell 2 rfl
                  have xbz2 := xb.frozen 2
                  go_simp
                  refine (TB2.out _).mono ?_
                  rintro e V7 ⟨rfl, hk⟩
                  clear xa0 xaz0 xa1 xaz1 xa2 xaz2 xb0 xbz0 xb1 xbz1 xb2 xbz2
                  replace hB := below_seq hB hk
                  replace xa := xa.seq hk
                  replace xb := xb.seq hk
                  clear hk
                  have xa0 := xa.cell 0 rfl
                  have xaz0 := xa.frozen 0
                  have xa1 := xa.cell 1 rfl
                  have xaz1 := xa.frozen 1
                  have xa2 := xa.cell 2 rfl
                  have xaz2 := xa.frozen 2
                  have xb0 := xb.cell 0 rfl
                  have xbz0 := xb.frozen 0
                  have xb1 := xb.cell 1 rfl
                  have xbz1 := xb.frozen 1
                  have xb2 := xb.cell 2 rfl
                  have xbz2 := xb.frozen 2
                  try go_wp2_with fail
                  clear xa0 xaz0 xa1 xaz1 xa2 xaz2 xb0 xbz0 xb1 xbz1 xb2 xbz2
                  clear hHeld
                  refine hK.out _ _ ?_ (fun hHeld => ?_)
                  · exact ⟨xa.cell 0 rfl, xa.cell 1 rfl, xa.cell 2 rfl, xb.cell 0 rfl, xb.cell 1 rfl, xb.cell 2 rfl⟩
                  clear hK K
                  try simp only [Act.put, List.getElem_toArray, List.getElem_cons_zero, List.getElem_cons_succ, List.setIfInBounds_toArray, List.set_cons_zero, List.set_cons_succ]
                  refine wpAnyH_take (i := 14) (v := ?_) rfl (by kernel_rfl) (by kernel_rfl) (by kernel_rfl) (fun _ _ _ h => h) (Or.inl ⟨by rfl, ?_⟩) (by assumption) ?_
                  rotate_left
                  · intro w hSw; (try dsimp only at hSw); go_simp; try with_reducible rfl
                  try simp only [Act.put, List.getElem_toArray, List.getElem_cons_zero, List.getElem_cons_succ, List.setIfInBounds_toArray, List.set_cons_zero, List.set_cons_succ]
                  refine wpAnyH_take (i := 18) (v := ?_) rfl (by kernel_rfl) (by kernel_rfl) (by kernel_rfl) (fun _ _ _ h => h) (Or.inl ⟨by rfl, ?_⟩) (by assumption) ?_
                  rotate_left
                  · intro w hSw; (try dsimp only at hSw); go_simp; try with_reducible rfl
                  try simp only [Act.put, List.getElem_toArray, List.getElem_cons_zero, List.getElem_cons_succ, List.setIfInBounds_toArray, List.set_cons_zero, List.set_cons_succ]
                  refine wpAnyH_take (i := 19) (v := ?_) rfl (by kernel_rfl) (by kernel_rfl) (by kernel_rfl) (fun _ _ _ h => h) (Or.inl ⟨by rfl, ?_⟩) (by assumption) ?_
                  rotate_left
                  · intro w hSw; (try dsimp only at hSw); go_simp; try with_reducible rfl
                  try simp only [Act.put, List.getElem_toArray, List.getElem_cons_zero, List.getElem_cons_succ, List.setIfInBounds_toArray, List.set_cons_zero, List.set_cons_succ]
                  refine wpAnyH_take (i := 20) (v := ?_) rfl (by kernel_rfl) (by kernel_rfl) (by kernel_rfl) (fun _ _ _ h => h) (Or.inl ⟨by rfl, ?_⟩) (by assumption) ?_
                  rotate_left
                  · intro w hSw; (try dsimp only at hSw); go_simp; try with_reducible rfl
                  try simp only [Act.put, List.getElem_toArray, List.getElem_cons_zero, List.getElem_cons_succ, List.setIfInBounds_toArray, List.set_cons_zero, List.set_cons_succ]
                  refine wpAnyH_done (by kernel_rfl) ?_ _
                  clear hHeld
                  have xa0 := xa.cell 0 rfl
                  have xaz0 := xa.frozen 0
                  have xa1 := xa.cell 1 rfl
                  have xaz1 := xa.frozen 1
                  have xa2 := xa.cell 2 rfl
                  have xaz2 := xa.frozen 2
                  have xb0 := xb.cell 0 rfl
                  have xbz0 := xb.frozen 0
                  have xb1 := xb.cell 1 rfl
                  have xbz1 := xb.frozen 1
                  have xb2 := xb.cell 2 rfl
                  have xbz2 := xb.frozen 2
                  go_wp2
                  go_ret
                  exact ⟨rfl, hB⟩
              · clear e
                have f3 : ¬ (s1 : Int) = (s2 : Int) := by omega
                have hB : Below W.heap.size W ((W.alloc (.cells #[.int .i64 k1, .int .u64 (s1 : Int), .int .u64 (e1 : Int)] 24)).alloc (.cells #[.int .i64 k1, .int .u64 (s2 : Int), .int .u64 (e2 : Int)] 24)) := (((Below.refl _ _).alloc (Nat.le_refl _) _).alloc (by simp) _)
                have xa := ((Box.new 24 W [.int .i64 k1, .int .u64 (s1 : Int), .int .u64 (e1 : Int)]).alloc (.cells #[.int .i64 k1, .int .u64 (s2 : Int), .int .u64 (e2 : Int)] 24))
                have xb : Box 24 ((W.alloc (.cells #[.int .i64 k1, .int .u64 (s1 : Int), .int .u64 (e1 : Int)] 24)).alloc (.cells #[.int .i64 k1, .int .u64 (s2 : Int), .int .u64 (e2 : Int)] 24)) (W.heap.size + 1) [.int .i64 k1, .int .u64 (s2 : Int), .int .u64 (e2 : Int)] := by have h := (Box.new 24 (W.alloc (.cells #[.int .i64 k1, .int .u64 (s1 : Int), .int .u64 (e1 : Int)] 24)) [.int .i64 k1, .int .u64 (s2 : Int), .int .u64 (e2 : Int)]); rwa [World.size_alloc] at h
                have le_xb : W.heap.size ≤ W.heap.size + 1 := by omega
                go_enter Try.func3, Try.ntmps3
                go_wp2_with fail
                refine (shown07 _).mono ?_
                rintro e V1 ⟨rfl, hk⟩
                replace hB := below_seq hB hk
                replace xa := xa.seq hk
                replace xb := xb.seq hk
                clear hk
                have xa0 := xa.cell 0 rfl
                have xaz0 := xa.frozen 0
                have xa1 := xa.cell 1 rfl
                have xaz1 := xa.frozen 1
                have xa2 := xa.cell 2 rfl
                have xaz2 := xa.frozen 2
                have xb0 := xb.cell 0 rfl
                have xbz0 := xb.frozen 0
                have xb1 := xb.cell 1 rfl
                have xbz1 := xb.frozen 1
                have xb2 := xb.cell 2 rfl
                have xbz2 := xb.frozen 2
                go_wp2_with fail
                generalize V1 = V2 at *
                clear xa0 xaz0 xa1 xaz1 xa2 xaz2 xb0 xbz0 xb1 xbz1 xb2 xbz2
                replace hB := hB.drew
                replace xa := xa.drew
                replace xb := xb.drew
                refine wp_region_held_drew (S := fun w' => w'.cell? ⟨W.heap.size, 0, none⟩ = some (.int .i64 k1) ∧ w'.cell? ⟨W.heap.size, 1, none⟩ = some (.int .u64 (s1 : Int)) ∧ w'.cell? ⟨W.heap.size, 2, none⟩ = some (.int .u64 (e1 : Int)) ∧ w'.cell? ⟨W.heap.size + 1, 0, none⟩ = some (.int .i64 k1) ∧ w'.cell? ⟨W.heap.size + 1, 1, none⟩ = some (.int .u64 (s2 : Int)) ∧ w'.cell? ⟨W.heap.size + 1, 2, none⟩ = some (.int .u64 (e2 : Int))) (by kernel_rfl) ?_ (fun hHeld => ?_)
                · exact ⟨xa.cell 0 rfl, xa.cell 1 rfl, xa.cell 2 rfl, xb.cell 0 rfl, xb.cell 1 rfl, xb.cell 2 rfl⟩
                generalize V2.drew = V3 at *
                refine wpAnyH_take (i := 0) (v := ?_) rfl (by kernel_rfl) (by kernel_rfl) (by kernel_rfl) (fun _ _ _ h => h) (Or.inl ⟨by rfl, ?_⟩) (by assumption) ?_
                rotate_left
                · intro w hSw; (try dsimp only at hSw); go_simp; try with_reducible rfl
                try simp only [Act.put, List.getElem_toArray, List.getElem_cons_zero, List.getElem_cons_succ, List.setIfInBounds_toArray, List.set_cons_zero, List.set_cons_succ]
                refine wpAnyH_take (i := 2) (v := ?_) rfl (by kernel_rfl) (by kernel_rfl) (by kernel_rfl) (fun _ _ _ h => h) (Or.inl ⟨by rfl, ?_⟩) (by assumption) ?_
                rotate_left
                · intro w hSw; (try dsimp only at hSw); go_simp; try with_reducible rfl
                try simp only [Act.put, List.getElem_toArray, List.getElem_cons_zero, List.getElem_cons_succ, List.setIfInBounds_toArray, List.set_cons_zero, List.set_cons_succ]
                refine wpAnyH_take (i := 5) (v := ?_) rfl (by kernel_rfl) (by kernel_rfl) (by kernel_rfl) (fun _ _ _ h => h) (Or.inl ⟨by rfl, ?_⟩) (by assumption) ?_
                rotate_left
                · intro w hSw; (try dsimp only at hSw); go_simp; try with_reducible rfl
                try simp only [Act.put, List.getElem_toArray, List.getElem_cons_zero, List.getElem_cons_succ, List.setIfInBounds_toArray, List.set_cons_zero, List.set_cons_succ]
                refine wpAnyH_take (i := 6) (v := ?_) rfl (by kernel_rfl) (by kernel_rfl) (by kernel_rfl) (fun _ _ _ h => h) (Or.inl ⟨by rfl, ?_⟩) (by assumption) ?_
                rotate_left
                · intro w hSw; (try dsimp only at hSw); go_simp; try with_reducible rfl
                try simp only [Act.put, List.getElem_toArray, List.getElem_cons_zero, List.getElem_cons_succ, List.setIfInBounds_toArray, List.set_cons_zero, List.set_cons_succ]
                refine wpAnyH_take (i := 7) (v := ?_) rfl (by kernel_rfl) (by kernel_rfl) (by kernel_rfl) (fun _ _ _ h => h) (Or.inl ⟨by rfl, ?_⟩) (by assumption) ?_
                rotate_left
                · intro w hSw; (try dsimp only at hSw); go_simp; try with_reducible rfl
                try simp only [Act.put, List.getElem_toArray, List.getElem_cons_zero, List.getElem_cons_succ, List.setIfInBounds_toArray, List.set_cons_zero, List.set_cons_succ]
                refine wpAnyH_ready (rs := [1]) (by kernel_rfl) (by simp) ?_
                refine AllReadyH.cons rfl (fun K hK => ?_) AllReadyH.nil
                have xa0 := xa.cell 0 rfl
                have xaz0 := xa.frozen 0
                have xa1 := xa.cell 1 rfl
                have xaz1 := xa.frozen 1
                have xa2 := xa.cell 2 rfl
                have xaz2 := xa.frozen 2
                have xb0 := xb.cell 0 rfl
                have xbz0 := xb.frozen 0
                have xb1 := xb.cell 1 rfl
                have xbz1 := xb.frozen 1
                have xb2 := xb.cell 2 rfl
                have xbz2 := xb.frozen 2
                go_simp
                refine (TA1.out _).mono ?_
                rintro e V4 ⟨rfl, hk⟩
                clear xa0 xaz0 xa1 xaz1 xa2 xaz2 xb0 xbz0 xb1 xbz1 xb2 xbz2
                replace hB := below_seq hB hk
                replace xa := xa.seq hk
                replace xb := xb.seq hk
                clear hk
                have xa0 := xa.cell 0 rfl
                have xaz0 := xa.frozen 0
                have xa1 := xa.cell 1 rfl
                have xaz1 := xa.frozen 1
                have xa2 := xa.cell 2 rfl
                have xaz2 := xa.frozen 2
                have xb0 := xb.cell 0 rfl
                have xbz0 := xb.frozen 0
                have xb1 := xb.cell 1 rfl
                have xbz1 := xb.frozen 1
                have xb2 := xb.cell 2 rfl
                have xbz2 := xb.frozen 2
                try go_wp2_with fail
                clear xa0 xaz0 xa1 xaz1 xa2 xaz2 xb0 xbz0 xb1 xbz1 xb2 xbz2
                clear hHeld
                refine hK.out _ _ ?_ (fun hHeld => ?_)
                · exact ⟨xa.cell 0 rfl, xa.cell 1 rfl, xa.cell 2 rfl, xb.cell 0 rfl, xb.cell 1 rfl, xb.cell 2 rfl⟩
                clear hK K
                try simp only [Act.put, List.getElem_toArray, List.getElem_cons_zero, List.getElem_cons_succ, List.setIfInBounds_toArray, List.set_cons_zero, List.set_cons_succ]
                refine wpAnyH_ready (rs := [3]) (by kernel_rfl) (by simp) ?_
                refine AllReadyH.cons rfl (fun K hK => ?_) AllReadyH.nil
                have xa0 := xa.cell 0 rfl
                have xaz0 := xa.frozen 0
                have xa1 := xa.cell 1 rfl
                have xaz1 := xa.frozen 1
                have xa2 := xa.cell 2 rfl
                have xaz2 := xa.frozen 2
                have xb0 := xb.cell 0 rfl
                have xbz0 := xb.frozen 0
                have xb1 := xb.cell 1 rfl
                have xbz1 := xb.frozen 1
                have xb2 := xb.cell 2 rfl
                have xbz2 := xb.frozen 2
                go_simp
                refine (TB1.out _).mono ?_
                rintro e V5 ⟨rfl, hk⟩
                clear xa0 xaz0 xa1 xaz1 xa2 xaz2 xb0 xbz0 xb1 xbz1 xb2 xbz2
                replace hB := below_seq hB hk
                replace xa := xa.seq hk
                replace xb := xb.seq hk
                clear hk
                have xa0 := xa.cell 0 rfl
                have xaz0 := xa.frozen 0
                have xa1 := xa.cell 1 rfl
                have xaz1 := xa.frozen 1
                have xa2 := xa.cell 2 rfl
                have xaz2 := xa.frozen 2
                have xb0 := xb.cell 0 rfl
                have xbz0 := xb.frozen 0
                have xb1 := xb.cell 1 rfl
                have xbz1 := xb.frozen 1
                have xb2 := xb.cell 2 rfl
                have xbz2 := xb.frozen 2
                try go_wp2_with fail
                clear xa0 xaz0 xa1 xaz1 xa2 xaz2 xb0 xbz0 xb1 xbz1 xb2 xbz2
                clear hHeld
                refine hK.out _ _ ?_ (fun hHeld => ?_)
                · exact ⟨xa.cell 0 rfl, xa.cell 1 rfl, xa.cell 2 rfl, xb.cell 0 rfl, xb.cell 1 rfl, xb.cell 2 rfl⟩
                clear hK K
                try simp only [Act.put, List.getElem_toArray, List.getElem_cons_zero, List.getElem_cons_succ, List.setIfInBounds_toArray, List.set_cons_zero, List.set_cons_succ]
                refine wpAnyH_take (i := 4) (v := ?_) rfl (by kernel_rfl) (by kernel_rfl) (by kernel_rfl) (fun _ _ _ h => h) (Or.inl ⟨by rfl, ?_⟩) (by assumption) ?_
                rotate_left
                · intro w hSw; (try dsimp only at hSw); go_simp; try with_reducible rfl
                try simp only [Act.put, List.getElem_toArray, List.getElem_cons_zero, List.getElem_cons_succ, List.setIfInBounds_toArray, List.set_cons_zero, List.set_cons_succ]
                refine wpAnyH_take (i := 8) (v := ?_) rfl (by kernel_rfl) (by kernel_rfl) (by kernel_rfl) (fun _ _ _ h => h) (Or.inl ⟨by rfl, ?_⟩) (by assumption) ?_
                rotate_left
                · intro w hSw; (try dsimp only at hSw); go_simp; try with_reducible rfl
                try simp only [Act.put, List.getElem_toArray, List.getElem_cons_zero, List.getElem_cons_succ, List.setIfInBounds_toArray, List.set_cons_zero, List.set_cons_succ]
                refine wpAnyH_take (i := 9) (v := ?_) rfl (by kernel_rfl) (by kernel_rfl) (by kernel_rfl) (fun _ _ _ h => h) (Or.inl ⟨by rfl, ?_⟩) (by assumption) ?_
                rotate_left
                · intro w hSw; (try dsimp only at hSw); go_simp; try with_reducible rfl
                try simp only [Act.put, List.getElem_toArray, List.getElem_cons_zero, List.getElem_cons_succ, List.setIfInBounds_toArray, List.set_cons_zero, List.set_cons_succ]
                refine wpAnyH_take (i := 10) (v := ?_) rfl (by kernel_rfl) (by kernel_rfl) (by kernel_rfl) (fun _ _ _ h => h) (Or.inl ⟨by rfl, ?_⟩) (by assumption) ?_
                rotate_left
                · intro w hSw; (try dsimp only at hSw); go_simp; try with_reducible rfl
                try simp only [Act.put, List.getElem_toArray, List.getElem_cons_zero, List.getElem_cons_succ, List.setIfInBounds_toArray, List.set_cons_zero, List.set_cons_succ]
                refine wpAnyH_take (i := 12) (v := ?_) rfl (by kernel_rfl) (by kernel_rfl) (by kernel_rfl) (fun _ _ _ h => h) (Or.inl ⟨by rfl, ?_⟩) (by assumption) ?_
                rotate_left
                · intro w hSw; (try dsimp only at hSw); go_simp; try with_reducible rfl
                try simp only [Act.put, List.getElem_toArray, List.getElem_cons_zero, List.getElem_cons_succ, List.setIfInBounds_toArray, List.set_cons_zero, List.set_cons_succ]
                refine wpAnyH_take (i := 15) (v := ?_) rfl (by kernel_rfl) (by kernel_rfl) (by kernel_rfl) (fun _ _ _ h => h) (Or.inl ⟨by rfl, ?_⟩) (by assumption) ?_
                rotate_left
                · intro w hSw; (try dsimp only at hSw); go_simp; try with_reducible rfl
                try simp only [Act.put, List.getElem_toArray, List.getElem_cons_zero, List.getElem_cons_succ, List.setIfInBounds_toArray, List.set_cons_zero, List.set_cons_succ]
                refine wpAnyH_take (i := 16) (v := ?_) rfl (by kernel_rfl) (by kernel_rfl) (by kernel_rfl) (fun _ _ _ h => h) (Or.inl ⟨by rfl, ?_⟩) (by assumption) ?_
                rotate_left
                · intro w hSw; (try dsimp only at hSw); go_simp; try with_reducible rfl
                try simp only [Act.put, List.getElem_toArray, List.getElem_cons_zero, List.getElem_cons_succ, List.setIfInBounds_toArray, List.set_cons_zero, List.set_cons_succ]
                refine wpAnyH_take (i := 17) (v := ?_) rfl (by kernel_rfl) (by kernel_rfl) (by kernel_rfl) (fun _ _ _ h => h) (Or.inl ⟨by rfl, ?_⟩) (by assumption) ?_
                rotate_left
                · intro w hSw; (try dsimp only at hSw); go_simp; try with_reducible rfl
                try simp only [Act.put, List.getElem_toArray, List.getElem_cons_zero, List.getElem_cons_succ, List.setIfInBounds_toArray, List.set_cons_zero, List.set_cons_succ]
                refine wpAnyH_ready (rs := [11]) (by kernel_rfl) (by simp) ?_
                refine AllReadyH.cons rfl (fun K hK => ?_) AllReadyH.nil
                have xa0 := xa.cell 0 rfl
                have xaz0 := xa.frozen 0
                have xa1 := xa.cell 1 rfl
                have xaz1 := xa.frozen 1
                have xa2 := xa.cell 2 rfl
                have xaz2 := xa.frozen 2
                have xb0 := xb.cell 0 rfl
                have xbz0 := xb.frozen 0
                have xb1 := xb.cell 1 rfl
                have xbz1 := xb.frozen 1
                have xb2 := xb.cell 2 rfl
                have xbz2 := xb.frozen 2
                go_simp
                refine (TA2.out _).mono ?_
                rintro e V6 ⟨rfl, hk⟩
                clear xa0 xaz0 xa1 xaz1 xa2 xaz2 xb0 xbz0 xb1 xbz1 xb2 xbz2
                replace hB := below_seq hB hk
                replace xa := xa.seq hk
                replace xb := xb.seq hk
                clear hk
                have xa0 := xa.cell 0 rfl
                have xaz0 := xa.frozen 0
                have xa1 := xa.cell 1 rfl
                have xaz1 := xa.frozen 1
                have xa2 := xa.cell 2 rfl
                have xaz2 := xa.frozen 2
                have xb0 := xb.cell 0 rfl
                have xbz0 := xb.frozen 0
                have xb1 := xb.cell 1 rfl
                have xbz1 := xb.frozen 1
                have xb2 := xb.cell 2 rfl
                have xbz2 := xb.frozen 2
                try go_wp2_with fail
                clear xa0 xaz0 xa1 xaz1 xa2 xaz2 xb0 xbz0 xb1 xbz1 xb2 xbz2
                clear hHeld
                refine hK.out _ _ ?_ (fun hHeld => ?_)
                · exact ⟨xa.cell 0 rfl, xa.cell 1 rfl, xa.cell 2 rfl, xb.cell 0 rfl, xb.cell 1 rfl, xb.cell 2 rfl⟩
                clear hK K
                try simp only [Act.put, List.getElem_toArray, List.getElem_cons_zero, List.getElem_cons_succ, List.setIfInBounds_toArray, List.set_cons_zero, List.set_cons_succ]
                refine wpAnyH_ready (rs := [13]) (by kernel_rfl) (by simp) ?_
                refine AllReadyH.cons rfl (fun K hK => ?_) AllReadyH.nil
                have xa0 := xa.cell 0 rfl
                have xaz0 := xa.frozen 0
                have xa1 := xa.cell 1 rfl
                have xaz1 := xa.frozen 1
                have xa2 := xa.cell 2 rfl
                have xaz2 := xa.frozen 2
                have xb0 := xb.cell 0 rfl
                have xbz0 := xb.frozen 0
                have xb1 := xb.cell 1 rfl
                have xbz1 := xb.frozen 1
                have xb2 := xb.cell 2 rfl
                have xbz2 := xb.frozen 2
                go_simp
                refine (TB2.out _).mono ?_
                rintro e V7 ⟨rfl, hk⟩
                clear xa0 xaz0 xa1 xaz1 xa2 xaz2 xb0 xbz0 xb1 xbz1 xb2 xbz2
                replace hB := below_seq hB hk
                replace xa := xa.seq hk
                replace xb := xb.seq hk
                clear hk
                have xa0 := xa.cell 0 rfl
                have xaz0 := xa.frozen 0
                have xa1 := xa.cell 1 rfl
                have xaz1 := xa.frozen 1
                have xa2 := xa.cell 2 rfl
                have xaz2 := xa.frozen 2
                have xb0 := xb.cell 0 rfl
                have xbz0 := xb.frozen 0
                have xb1 := xb.cell 1 rfl
                have xbz1 := xb.frozen 1
                have xb2 := xb.cell 2 rfl
                have xbz2 := xb.frozen 2
                try go_wp2_with fail
                clear xa0 xaz0 xa1 xaz1 xa2 xaz2 xb0 xbz0 xb1 xbz1 xb2 xbz2
                clear hHeld
                refine hK.out _ _ ?_ (fun hHeld => ?_)
                · exact ⟨xa.cell 0 rfl, xa.cell 1 rfl, xa.cell 2 rfl, xb.cell 0 rfl, xb.cell 1 rfl, xb.cell 2 rfl⟩
                clear hK K
                try simp only [Act.put, List.getElem_toArray, List.getElem_cons_zero, List.getElem_cons_succ, List.setIfInBounds_toArray, List.set_cons_zero, List.set_cons_succ]
                refine wpAnyH_take (i := 14) (v := ?_) rfl (by kernel_rfl) (by kernel_rfl) (by kernel_rfl) (fun _ _ _ h => h) (Or.inl ⟨by rfl, ?_⟩) (by assumption) ?_
                rotate_left
                · intro w hSw; (try dsimp only at hSw); go_simp; try with_reducible rfl
                try simp only [Act.put, List.getElem_toArray, List.getElem_cons_zero, List.getElem_cons_succ, List.setIfInBounds_toArray, List.set_cons_zero, List.set_cons_succ]
                refine wpAnyH_take (i := 18) (v := ?_) rfl (by kernel_rfl) (by kernel_rfl) (by kernel_rfl) (fun _ _ _ h => h) (Or.inl ⟨by rfl, ?_⟩) (by assumption) ?_
                rotate_left
                · intro w hSw; (try dsimp only at hSw); go_simp; try with_reducible rfl
                try simp only [Act.put, List.getElem_toArray, List.getElem_cons_zero, List.getElem_cons_succ, List.setIfInBounds_toArray, List.set_cons_zero, List.set_cons_succ]
                refine wpAnyH_take (i := 19) (v := ?_) rfl (by kernel_rfl) (by kernel_rfl) (by kernel_rfl) (fun _ _ _ h => h) (Or.inl ⟨by rfl, ?_⟩) (by assumption) ?_
                rotate_left
                · intro w hSw; (try dsimp only at hSw); go_simp; try with_reducible rfl
                try simp only [Act.put, List.getElem_toArray, List.getElem_cons_zero, List.getElem_cons_succ, List.setIfInBounds_toArray, List.set_cons_zero, List.set_cons_succ]
                refine wpAnyH_take (i := 20) (v := ?_) rfl (by kernel_rfl) (by kernel_rfl) (by kernel_rfl) (fun _ _ _ h => h) (Or.inl ⟨by rfl, ?_⟩) (by assumption) ?_
                rotate_left
                · intro w hSw; (try dsimp only at hSw); go_simp; try with_reducible rfl
                try simp only [Act.put, List.getElem_toArray, List.getElem_cons_zero, List.getElem_cons_succ, List.setIfInBounds_toArray, List.set_cons_zero, List.set_cons_succ]
                refine wpAnyH_done (by kernel_rfl) ?_ _
                clear hHeld
                have xa0 := xa.cell 0 rfl
                have xaz0 := xa.frozen 0
                have xa1 := xa.cell 1 rfl
                have xaz1 := xa.frozen 1
                have xa2 := xa.cell 2 rfl
                have xaz2 := xa.frozen 2
                have xb0 := xb.cell 0 rfl
                have xbz0 := xb.frozen 0
                have xb1 := xb.cell 1 rfl
                have xbz1 := xb.frozen 1
                have xb2 := xb.cell 2 rfl
                have xbz2 := xb.frozen 2
                go_wp2
                go_ret
                exact ⟨rfl, hB⟩
            · clear e
              have f3 : ¬ k1 = k2 := q1
              have hB : Below W.heap.size W ((W.alloc (.cells #[.int .i64 k1, .int .u64 (s1 : Int), .int .u64 (e1 : Int)] 24)).alloc (.cells #[.int .i64 k2, .int .u64 (s2 : Int), .int .u64 (e2 : Int)] 24)) := (((Below.refl _ _).alloc (Nat.le_refl _) _).alloc (by simp) _)
              have xa := ((Box.new 24 W [.int .i64 k1, .int .u64 (s1 : Int), .int .u64 (e1 : Int)]).alloc (.cells #[.int .i64 k2, .int .u64 (s2 : Int), .int .u64 (e2 : Int)] 24))
              have xb : Box 24 ((W.alloc (.cells #[.int .i64 k1, .int .u64 (s1 : Int), .int .u64 (e1 : Int)] 24)).alloc (.cells #[.int .i64 k2, .int .u64 (s2 : Int), .int .u64 (e2 : Int)] 24)) (W.heap.size + 1) [.int .i64 k2, .int .u64 (s2 : Int), .int .u64 (e2 : Int)] := by have h := (Box.new 24 (W.alloc (.cells #[.int .i64 k1, .int .u64 (s1 : Int), .int .u64 (e1 : Int)] 24)) [.int .i64 k2, .int .u64 (s2 : Int), .int .u64 (e2 : Int)]); rwa [World.size_alloc] at h
              have le_xb : W.heap.size ≤ W.heap.size + 1 := by omega
              go_enter Try.func3, Try.ntmps3
              go_wp2_with fail
              refine (shown07 _).mono ?_
              rintro e V1 ⟨rfl, hk⟩
              replace hB := below_seq hB hk
              replace xa := xa.seq hk
              replace xb := xb.seq hk
              clear hk
              have xa0 := xa.cell 0 rfl
              have xaz0 := xa.frozen 0
              have xa1 := xa.cell 1 rfl
              have xaz1 := xa.frozen 1
              have xa2 := xa.cell 2 rfl
              have xaz2 := xa.frozen 2
              have xb0 := xb.cell 0 rfl
              have xbz0 := xb.frozen 0
              have xb1 := xb.cell 1 rfl
              have xbz1 := xb.frozen 1
              have xb2 := xb.cell 2 rfl
              have xbz2 := xb.frozen 2
              go_wp2_with fail
              generalize V1 = V2 at *
              clear xa0 xaz0 xa1 xaz1 xa2 xaz2 xb0 xbz0 xb1 xbz1 xb2 xbz2
              replace hB := hB.drew
              replace xa := xa.drew
              replace xb := xb.drew
              refine wp_region_held_drew (S := fun w' => w'.cell? ⟨W.heap.size, 0, none⟩ = some (.int .i64 k1) ∧ w'.cell? ⟨W.heap.size, 1, none⟩ = some (.int .u64 (s1 : Int)) ∧ w'.cell? ⟨W.heap.size, 2, none⟩ = some (.int .u64 (e1 : Int)) ∧ w'.cell? ⟨W.heap.size + 1, 0, none⟩ = some (.int .i64 k2) ∧ w'.cell? ⟨W.heap.size + 1, 1, none⟩ = some (.int .u64 (s2 : Int)) ∧ w'.cell? ⟨W.heap.size + 1, 2, none⟩ = some (.int .u64 (e2 : Int))) (by kernel_rfl) ?_ (fun hHeld => ?_)
              · exact ⟨xa.cell 0 rfl, xa.cell 1 rfl, xa.cell 2 rfl, xb.cell 0 rfl, xb.cell 1 rfl, xb.cell 2 rfl⟩
              generalize V2.drew = V3 at *
              refine wpAnyH_take (i := 0) (v := ?_) rfl (by kernel_rfl) (by kernel_rfl) (by kernel_rfl) (fun _ _ _ h => h) (Or.inl ⟨by rfl, ?_⟩) (by assumption) ?_
              rotate_left
              · intro w hSw; (try dsimp only at hSw); go_simp; try with_reducible rfl
              try simp only [Act.put, List.getElem_toArray, List.getElem_cons_zero, List.getElem_cons_succ, List.setIfInBounds_toArray, List.set_cons_zero, List.set_cons_succ]
              refine wpAnyH_take (i := 2) (v := ?_) rfl (by kernel_rfl) (by kernel_rfl) (by kernel_rfl) (fun _ _ _ h => h) (Or.inl ⟨by rfl, ?_⟩) (by assumption) ?_
              rotate_left
              · intro w hSw; (try dsimp only at hSw); go_simp; try with_reducible rfl
              try simp only [Act.put, List.getElem_toArray, List.getElem_cons_zero, List.getElem_cons_succ, List.setIfInBounds_toArray, List.set_cons_zero, List.set_cons_succ]
              refine wpAnyH_take (i := 5) (v := ?_) rfl (by kernel_rfl) (by kernel_rfl) (by kernel_rfl) (fun _ _ _ h => h) (Or.inl ⟨by rfl, ?_⟩) (by assumption) ?_
              rotate_left
              · intro w hSw; (try dsimp only at hSw); go_simp; try with_reducible rfl
              try simp only [Act.put, List.getElem_toArray, List.getElem_cons_zero, List.getElem_cons_succ, List.setIfInBounds_toArray, List.set_cons_zero, List.set_cons_succ]
              refine wpAnyH_take (i := 6) (v := ?_) rfl (by kernel_rfl) (by kernel_rfl) (by kernel_rfl) (fun _ _ _ h => h) (Or.inl ⟨by rfl, ?_⟩) (by assumption) ?_
              rotate_left
              · intro w hSw; (try dsimp only at hSw); go_simp; try with_reducible rfl
              try simp only [Act.put, List.getElem_toArray, List.getElem_cons_zero, List.getElem_cons_succ, List.setIfInBounds_toArray, List.set_cons_zero, List.set_cons_succ]
              refine wpAnyH_take (i := 7) (v := ?_) rfl (by kernel_rfl) (by kernel_rfl) (by kernel_rfl) (fun _ _ _ h => h) (Or.inl ⟨by rfl, ?_⟩) (by assumption) ?_
              rotate_left
              · intro w hSw; (try dsimp only at hSw); go_simp; try with_reducible rfl
              try simp only [Act.put, List.getElem_toArray, List.getElem_cons_zero, List.getElem_cons_succ, List.setIfInBounds_toArray, List.set_cons_zero, List.set_cons_succ]
              refine wpAnyH_ready (rs := [1]) (by kernel_rfl) (by simp) ?_
              refine AllReadyH.cons rfl (fun K hK => ?_) AllReadyH.nil
              have xa0 := xa.cell 0 rfl
              have xaz0 := xa.frozen 0
              have xa1 := xa.cell 1 rfl
              have xaz1 := xa.frozen 1
              have xa2 := xa.cell 2 rfl
              have xaz2 := xa.frozen 2
              have xb0 := xb.cell 0 rfl
              have xbz0 := xb.frozen 0
              have xb1 := xb.cell 1 rfl
              have xbz1 := xb.frozen 1
              have xb2 := xb.cell 2 rfl
              have xbz2 := xb.frozen 2
              go_simp
              refine (TA1.out _).mono ?_
              rintro e V4 ⟨rfl, hk⟩
              clear xa0 xaz0 xa1 xaz1 xa2 xaz2 xb0 xbz0 xb1 xbz1 xb2 xbz2
              replace hB := below_seq hB hk
              replace xa := xa.seq hk
              replace xb := xb.seq hk
              clear hk
              have xa0 := xa.cell 0 rfl
              have xaz0 := xa.frozen 0
              have xa1 := xa.cell 1 rfl
              have xaz1 := xa.frozen 1
              have xa2 := xa.cell 2 rfl
              have xaz2 := xa.frozen 2
              have xb0 := xb.cell 0 rfl
              have xbz0 := xb.frozen 0
              have xb1 := xb.cell 1 rfl
              have xbz1 := xb.frozen 1
              have xb2 := xb.cell 2 rfl
              have xbz2 := xb.frozen 2
              try go_wp2_with fail
              clear xa0 xaz0 xa1 xaz1 xa2 xaz2 xb0 xbz0 xb1 xbz1 xb2 xbz2
              clear hHeld
              refine hK.out _ _ ?_ (fun hHeld => ?_)
              · exact ⟨xa.cell 0 rfl, xa.cell 1 rfl, xa.cell 2 rfl, xb.cell 0 rfl, xb.cell 1 rfl, xb.cell 2 rfl⟩
              clear hK K
              try simp only [Act.put, List.getElem_toArray, List.getElem_cons_zero, List.getElem_cons_succ, List.setIfInBounds_toArray, List.set_cons_zero, List.set_cons_succ]
              refine wpAnyH_ready (rs := [3]) (by kernel_rfl) (by simp) ?_
              refine AllReadyH.cons rfl (fun K hK => ?_) AllReadyH.nil
              have xa0 := xa.cell 0 rfl
              have xaz0 := xa.frozen 0
              have xa1 := xa.cell 1 rfl
              have xaz1 := xa.frozen 1
              have xa2 := xa.cell 2 rfl
              have xaz2 := xa.frozen 2
              have xb0 := xb.cell 0 rfl
              have xbz0 := xb.frozen 0
              have xb1 := xb.cell 1 rfl
              have xbz1 := xb.frozen 1
              have xb2 := xb.cell 2 rfl
              have xbz2 := xb.frozen 2
              go_simp
              refine (TB1.out _).mono ?_
              rintro e V5 ⟨rfl, hk⟩
              clear xa0 xaz0 xa1 xaz1 xa2 xaz2 xb0 xbz0 xb1 xbz1 xb2 xbz2
              replace hB := below_seq hB hk
              replace xa := xa.seq hk
              replace xb := xb.seq hk
              clear hk
              have xa0 := xa.cell 0 rfl
              have xaz0 := xa.frozen 0
              have xa1 := xa.cell 1 rfl
              have xaz1 := xa.frozen 1
              have xa2 := xa.cell 2 rfl
              have xaz2 := xa.frozen 2
              have xb0 := xb.cell 0 rfl
              have xbz0 := xb.frozen 0
              have xb1 := xb.cell 1 rfl
              have xbz1 := xb.frozen 1
              have xb2 := xb.cell 2 rfl
              have xbz2 := xb.frozen 2
              try go_wp2_with fail
              clear xa0 xaz0 xa1 xaz1 xa2 xaz2 xb0 xbz0 xb1 xbz1 xb2 xbz2
              clear hHeld
              refine hK.out _ _ ?_ (fun hHeld => ?_)
              · exact ⟨xa.cell 0 rfl, xa.cell 1 rfl, xa.cell 2 rfl, xb.cell 0 rfl, xb.cell 1 rfl, xb.cell 2 rfl⟩
              clear hK K
              try simp only [Act.put, List.getElem_toArray, List.getElem_cons_zero, List.getElem_cons_succ, List.setIfInBounds_toArray, List.set_cons_zero, List.set_cons_succ]
              refine wpAnyH_take (i := 4) (v := ?_) rfl (by kernel_rfl) (by kernel_rfl) (by kernel_rfl) (fun _ _ _ h => h) (Or.inl ⟨by rfl, ?_⟩) (by assumption) ?_
              rotate_left
              · intro w hSw; (try dsimp only at hSw); go_simp; try with_reducible rfl
              try simp only [Act.put, List.getElem_toArray, List.getElem_cons_zero, List.getElem_cons_succ, List.setIfInBounds_toArray, List.set_cons_zero, List.set_cons_succ]
              refine wpAnyH_take (i := 8) (v := ?_) rfl (by kernel_rfl) (by kernel_rfl) (by kernel_rfl) (fun _ _ _ h => h) (Or.inl ⟨by rfl, ?_⟩) (by assumption) ?_
              rotate_left
              · intro w hSw; (try dsimp only at hSw); go_simp; try with_reducible rfl
              try simp only [Act.put, List.getElem_toArray, List.getElem_cons_zero, List.getElem_cons_succ, List.setIfInBounds_toArray, List.set_cons_zero, List.set_cons_succ]
              refine wpAnyH_take (i := 9) (v := ?_) rfl (by kernel_rfl) (by kernel_rfl) (by kernel_rfl) (fun _ _ _ h => h) (Or.inl ⟨by rfl, ?_⟩) (by assumption) ?_
              rotate_left
              · intro w hSw; (try dsimp only at hSw); go_simp; try with_reducible rfl
              try simp only [Act.put, List.getElem_toArray, List.getElem_cons_zero, List.getElem_cons_succ, List.setIfInBounds_toArray, List.set_cons_zero, List.set_cons_succ]
              refine wpAnyH_take (i := 10) (v := ?_) rfl (by kernel_rfl) (by kernel_rfl) (by kernel_rfl) (fun _ _ _ h => h) (Or.inl ⟨by rfl, ?_⟩) (by assumption) ?_
              rotate_left
              · intro w hSw; (try dsimp only at hSw); go_simp; try with_reducible rfl
              try simp only [Act.put, List.getElem_toArray, List.getElem_cons_zero, List.getElem_cons_succ, List.setIfInBounds_toArray, List.set_cons_zero, List.set_cons_succ]
              refine wpAnyH_take (i := 12) (v := ?_) rfl (by kernel_rfl) (by kernel_rfl) (by kernel_rfl) (fun _ _ _ h => h) (Or.inl ⟨by rfl, ?_⟩) (by assumption) ?_
              rotate_left
              · intro w hSw; (try dsimp only at hSw); go_simp; try with_reducible rfl
              try simp only [Act.put, List.getElem_toArray, List.getElem_cons_zero, List.getElem_cons_succ, List.setIfInBounds_toArray, List.set_cons_zero, List.set_cons_succ]
              refine wpAnyH_take (i := 15) (v := ?_) rfl (by kernel_rfl) (by kernel_rfl) (by kernel_rfl) (fun _ _ _ h => h) (Or.inl ⟨by rfl, ?_⟩) (by assumption) ?_
              rotate_left
              · intro w hSw; (try dsimp only at hSw); go_simp; try with_reducible rfl
              try simp only [Act.put, List.getElem_toArray, List.getElem_cons_zero, List.getElem_cons_succ, List.setIfInBounds_toArray, List.set_cons_zero, List.set_cons_succ]
              refine wpAnyH_take (i := 16) (v := ?_) rfl (by kernel_rfl) (by kernel_rfl) (by kernel_rfl) (fun _ _ _ h => h) (Or.inl ⟨by rfl, ?_⟩) (by assumption) ?_
              rotate_left
              · intro w hSw; (try dsimp only at hSw); go_simp; try with_reducible rfl
              try simp only [Act.put, List.getElem_toArray, List.getElem_cons_zero, List.getElem_cons_succ, List.setIfInBounds_toArray, List.set_cons_zero, List.set_cons_succ]
              refine wpAnyH_take (i := 17) (v := ?_) rfl (by kernel_rfl) (by kernel_rfl) (by kernel_rfl) (fun _ _ _ h => h) (Or.inl ⟨by rfl, ?_⟩) (by assumption) ?_
              rotate_left
              · intro w hSw; (try dsimp only at hSw); go_simp; try with_reducible rfl
              try simp only [Act.put, List.getElem_toArray, List.getElem_cons_zero, List.getElem_cons_succ, List.setIfInBounds_toArray, List.set_cons_zero, List.set_cons_succ]
              refine wpAnyH_ready (rs := [11]) (by kernel_rfl) (by simp) ?_
              refine AllReadyH.cons rfl (fun K hK => ?_) AllReadyH.nil
              have xa0 := xa.cell 0 rfl
              have xaz0 := xa.frozen 0
              have xa1 := xa.cell 1 rfl
              have xaz1 := xa.frozen 1
              have xa2 := xa.cell 2 rfl
              have xaz2 := xa.frozen 2
              have xb0 := xb.cell 0 rfl
              have xbz0 := xb.frozen 0
              have xb1 := xb.cell 1 rfl
              have xbz1 := xb.frozen 1
              have xb2 := xb.cell 2 rfl
              have xbz2 := xb.frozen 2
              go_simp
              refine (TA2.out _).mono ?_
              rintro e V6 ⟨rfl, hk⟩
              clear xa0 xaz0 xa1 xaz1 xa2 xaz2 xb0 xbz0 xb1 xbz1 xb2 xbz2
              replace hB := below_seq hB hk
              replace xa := xa.seq hk
              replace xb := xb.seq hk
              clear hk
              have xa0 := xa.cell 0 rfl
              have xaz0 := xa.frozen 0
              have xa1 := xa.cell 1 rfl
              have xaz1 := xa.frozen 1
              have xa2 := xa.cell 2 rfl
              have xaz2 := xa.frozen 2
              have xb0 := xb.cell 0 rfl
              have xbz0 := xb.frozen 0
              have xb1 := xb.cell 1 rfl
              have xbz1 := xb.frozen 1
              have xb2 := xb.cell 2 rfl
              have xbz2 := xb.frozen 2
              try go_wp2_with fail
              clear xa0 xaz0 xa1 xaz1 xa2 xaz2 xb0 xbz0 xb1 xbz1 xb2 xbz2
              clear hHeld
              refine hK.out _ _ ?_ (fun hHeld => ?_)
              · exact ⟨xa.cell 0 rfl, xa.cell 1 rfl, xa.cell 2 rfl, xb.cell 0 rfl, xb.cell 1 rfl, xb.cell 2 rfl⟩
              clear hK K
              try simp only [Act.put, List.getElem_toArray, List.getElem_cons_zero, List.getElem_cons_succ, List.setIfInBounds_toArray, List.set_cons_zero, List.set_cons_succ]
              refine wpAnyH_ready (rs := [13]) (by kernel_rfl) (by simp) ?_
              refine AllReadyH.cons rfl (fun K hK => ?_) AllReadyH.nil
              have xa0 := xa.cell 0 rfl
              have xaz0 := xa.frozen 0
              have xa1 := xa.cell 1 rfl
              have xaz1 := xa.frozen 1
              have xa2 := xa.cell 2 rfl
              have xaz2 := xa.frozen 2
              have xb0 := xb.cell 0 rfl
              have xbz0 := xb.frozen 0
              have xb1 := xb.cell 1 rfl
              have xbz1 := xb.frozen 1
              have xb2 := xb.cell 2 rfl
              have xbz2 := xb.frozen 2
              go_simp
              refine (TB2.out _).mono ?_
              rintro e V7 ⟨rfl, hk⟩
              clear xa0 xaz0 xa1 xaz1 xa2 xaz2 xb0 xbz0 xb1 xbz1 xb2 xbz2
              replace hB := below_seq hB hk
              replace xa := xa.seq hk
              replace xb := xb.seq hk
              clear hk
              have xa0 := xa.cell 0 rfl
              have xaz0 := xa.frozen 0
              have xa1 := xa.cell 1 rfl
              have xaz1 := xa.frozen 1
              have xa2 := xa.cell 2 rfl
              have xaz2 := xa.frozen 2
              have xb0 := xb.cell 0 rfl
              have xbz0 := xb.frozen 0
              have xb1 := xb.cell 1 rfl
              have xbz1 := xb.frozen 1
              have xb2 := xb.cell 2 rfl
              have xbz2 := xb.frozen 2
              try go_wp2_with fail
              clear xa0 xaz0 xa1 xaz1 xa2 xaz2 xb0 xbz0 xb1 xbz1 xb2 xbz2
              clear hHeld
              refine hK.out _ _ ?_ (fun hHeld => ?_)
              · exact ⟨xa.cell 0 rfl, xa.cell 1 rfl, xa.cell 2 rfl, xb.cell 0 rfl, xb.cell 1 rfl, xb.cell 2 rfl⟩
              clear hK K
              try simp only [Act.put, List.getElem_toArray, List.getElem_cons_zero, List.getElem_cons_succ, List.setIfInBounds_toArray, List.set_cons_zero, List.set_cons_succ]
              refine wpAnyH_take (i := 14) (v := ?_) rfl (by kernel_rfl) (by kernel_rfl) (by kernel_rfl) (fun _ _ _ h => h) (Or.inl ⟨by rfl, ?_⟩) (by assumption) ?_
              rotate_left
              · intro w hSw; (try dsimp only at hSw); go_simp; try with_reducible rfl
              try simp only [Act.put, List.getElem_toArray, List.getElem_cons_zero, List.getElem_cons_succ, List.setIfInBounds_toArray, List.set_cons_zero, List.set_cons_succ]
              refine wpAnyH_take (i := 18) (v := ?_) rfl (by kernel_rfl) (by kernel_rfl) (by kernel_rfl) (fun _ _ _ h => h) (Or.inl ⟨by rfl, ?_⟩) (by assumption) ?_
              rotate_left
              · intro w hSw; (try dsimp only at hSw); go_simp; try with_reducible rfl
              try simp only [Act.put, List.getElem_toArray, List.getElem_cons_zero, List.getElem_cons_succ, List.setIfInBounds_toArray, List.set_cons_zero, List.set_cons_succ]
              refine wpAnyH_take (i := 19) (v := ?_) rfl (by kernel_rfl) (by kernel_rfl) (by kernel_rfl) (fun _ _ _ h => h) (Or.inl ⟨by rfl, ?_⟩) (by assumption) ?_
              rotate_left
              · intro w hSw; (try dsimp only at hSw); go_simp; try with_reducible rfl
              try simp only [Act.put, List.getElem_toArray, List.getElem_cons_zero, List.getElem_cons_succ, List.setIfInBounds_toArray, List.set_cons_zero, List.set_cons_succ]
              refine wpAnyH_take (i := 20) (v := ?_) rfl (by kernel_rfl) (by kernel_rfl) (by kernel_rfl) (fun _ _ _ h => h) (Or.inl ⟨by rfl, ?_⟩) (by assumption) ?_
              rotate_left
              · intro w hSw; (try dsimp only at hSw); go_simp; try with_reducible rfl
              try simp only [Act.put, List.getElem_toArray, List.getElem_cons_zero, List.getElem_cons_succ, List.setIfInBounds_toArray, List.set_cons_zero, List.set_cons_succ]
              refine wpAnyH_done (by kernel_rfl) ?_ _
              clear hHeld
              have xa0 := xa.cell 0 rfl
              have xaz0 := xa.frozen 0
              have xa1 := xa.cell 1 rfl
              have xaz1 := xa.frozen 1
              have xa2 := xa.cell 2 rfl
              have xaz2 := xa.frozen 2
              have xb0 := xb.cell 0 rfl
              have xbz0 := xb.frozen 0
              have xb1 := xb.cell 1 rfl
              have xbz1 := xb.frozen 1
              have xb2 := xb.cell 2 rfl
              have xbz2 := xb.frozen 2
              go_wp2
              go_ret
              exact ⟨rfl, hB⟩

theorem own : ownKnob Try.prog.godebug = none := by kernel_rfl

set_option maxRecDepth 100000 in
theorem lifted (os : Os) (started : os.Started) (H : Type) (enc : TypeId × Value → H) :
    ReturnsInHanded {} Try.checked os 3 .any (Rows.recordApartSpec.pre6 enc Try.prog Try.f3 Rows.recordApartRow.domain false) (Rows.recordApartSpec.post enc Try.prog Try.f3 false true false false) := by
  refine returnsInHanded_of_change (C := Try.checked) own started (by kernel_rfl) Try.func3
    (ChangeSpec.witness6 (enc := enc) (C := Try.checked) false ⟨#[], #[.agg #[.int .i64 0, .int .u64 0, .int .u64 0], .agg #[.int .i64 0, .int .u64 0, .int .u64 0]], []⟩ 8 (by kernel_rfl) (by kernel_rfl) (by kernel_rfl) (by kernel_rfl)) ?_
  intro W base args ds gs before hval hW _ _
  have hW' := hW
  obtain ⟨p, q, hA0, hV, rfl, hfz, hnd⟩ := hW
  have hA : DataW.TrodAll enc Try.prog W 0 (fun _ => true) true Try.f3.params.toList args.toList ds p := hA0
  rw [Try.params3] at hA hval
  obtain ⟨v0, vs0, d0, ds0, p0, q0, hargs, rfl, rfl, h0, r0⟩ := trodAll_cons hA
  obtain ⟨v1, vs1, d1, ds1, p1, q1, rfl, rfl, rfl, h1, r1⟩ := trodAll_cons r0
  obtain ⟨rfl, rfl, rfl⟩ := trodAll_nil r1
  obtain rfl : args = #[v0, v1] := by cases args; simp_all
  obtain ⟨rfl, rfl⟩ := trodVars_none hV
  have k0 := h0
  obtain ⟨s0, rfl, hs0⟩ := open_rec (hval 0 24 v0 rfl rfl) h0
  have k1 := h1
  obtain ⟨s1, rfl, hs1⟩ := open_rec (hval 1 24 v1 rfl rfl) h1
  clear hA0
  simp only [List.append_nil] at hW'
  refine (walk s0 s1 W hs0 hs1).mono fun e W' ⟨he, hB⟩ => ?_
  subst he
  exact ⟨_, rfl, ⟨_, _, _, [], _, [], hW', trodAll_cons_mk (shut_bool Try.underlying4 _) trodAll_mk0, (trodAll_cons_mk (Below.trod Try.laidOut (by kernel_rfl) (of_decide_eq_true (by kernel_rfl)) k0 hB (fun x hx => by simpa using hW'.lt x (by simp [hx]))) (trodAll_cons_mk (Below.trod Try.laidOut (by kernel_rfl) (of_decide_eq_true (by kernel_rfl)) k1 hB (fun x hx => by simpa using hW'.lt x (by simp [hx]))) trodAll_mk0)), rfl, hB.frame _, fun h => by cases h⟩⟩

theorem holds : Rows.RecordApartSaid :=
  OpenClaim.holds_of_wide 3 Try.f3 rfl rfl rfl rfl rfl rfl rfl ⟨rfl, rfl, rfl, rfl, rfl⟩ rfl rfl rfl rfl rfl (by kernel_rfl) Try.func3 (by kernel_rfl)
    (of_decide_eq_true (by kernel_rfl)) (by unfold Func.isWrapper; first | (rw [if_pos (by decide +kernel)]; kernel_rfl) | (rw [if_neg (by decide +kernel)]; exact ⟨rfl, rfl⟩))
    (fun os started H enc _ => lifted os started H enc)
end Go.Proofs.Ytoemjfjmpmngead.RecordApart

/- A record that is written over blank bytes makes that slot good, and no other one; its mark alone makes the difference (BankWrites); no condition. -/
import Derived.Test.YtoemjfjmpmngeadBankLaw
import Derived.Deep.RegionHeld3
import Derived.WalkLawsBesides
import Derived.WalkSpells
import Derived.IntWalk
import Derived.Lib.Hide
import Derived.Test.YtoemjfjmpmngeadBox
import Derived.Test.YtoemjfjmpmngeadLayout
import Derived.ProofKit
import Derived.OpenShut
import Derived.ChangeMaps5
import Derived.Test.YtoemjfjmpmngeadInts
namespace Go.Proofs.Ytoemjfjmpmngead.BankWrites
open Go.ChangeShapes Go.WideShapes Go.ChangeAt Go.RowKit Go.ChangeMaps
set_option linter.unusedVariables false
set_option linter.unusedSimpArgs false

set_option maxRecDepth 100000 in
set_option maxHeartbeats 16000000 in
theorem walk (r : Rec) (n : UInt8) (a : UInt8) (W : World) (hr : r.ok) :
    Calls Try.prog 7 #[.agg #[.int .i64 r.kind, .int .u64 (r.seq : Int), .int .u64 (r.data : Int)], .int .u8 (n.toNat : Int), .int .u8 (a.toNat : Int)] W fun e W' => e = .returned (.bool true) ∧ Below W.heap.size W W' := by
  have hn8 := n.toNat_lt
  have ha8 := a.toNat_lt
  obtain ⟨q, hq⟩ : ∃ q : Nat, n.toNat % 12 = q := ⟨_, rfl⟩
  obtain ⟨p, hp⟩ : ∃ p : Nat, a.toNat % (1 + q) = p := ⟨_, rfl⟩
  have hq12 : q < 12 := by omega
  have hpq : p < 1 + q := by have := Nat.mod_lt a.toNat (show 0 < 1 + q from by omega); omega
  have em : (n.toNat : Int) % 12 = (q : Int) := by omega
  have en : (a.toNat : Int) % (1 + (q : Int)) = (p : Int) := by have h := congrArg (fun x : Nat => (x : Int)) hp; exact_mod_cast h
  have wk1 : IntKind.i64.wrap (n.toNat : Int) = (n.toNat : Int) := IntWalk.i64_in _ (by omega)
  have wk2 : IntKind.i64.wrap (a.toNat : Int) = (a.toNat : Int) := IntWalk.i64_in _ (by omega)
  have em2 : (n.toNat : Int).tmod 12 = (q : Int) := by rw [Int.tmod_eq_emod_of_nonneg (by omega)]; exact em
  have en2 : (a.toNat : Int).tmod (1 + (q : Int)) = (p : Int) := by rw [Int.tmod_eq_emod_of_nonneg (by omega)]; exact en
  have n3 : (1 + (q : Int) == 0) = false := beq_eq_false_iff_ne.2 (by omega)
  have v1 : IntKind.i64.wrap (1 + (q : Int)) = 1 + (q : Int) := IntWalk.i64_in _ (by omega)
  have v2 : IntKind.i64.wrap (1 + (p : Int)) = 1 + (p : Int) := IntWalk.i64_in _ (by omega)
  clear hq hp
  by_cases c2 : r.kind < 2
  · have hB : Below W.heap.size W (W.alloc (.cells #[.int .i64 r.kind, .int .u64 (r.seq : Int), .int .u64 (r.data : Int)] 24)) := ((Below.refl _ _).alloc (Nat.le_refl _) _)
    have xr := (Box.new 24 W [.int .i64 r.kind, .int .u64 (r.seq : Int), .int .u64 (r.data : Int)])
    go_enter Try.func7, Try.ntmps7
    go_wp2_with fail
    refine (shown08 _).mono ?_
    rintro e V1 ⟨rfl, hk⟩
    replace hB := below_seq hB hk
    replace xr := xr.seq hk
    clear hk
    have xr0 := xr.cell 0 rfl
    have xrz0 := xr.frozen 0
    have xr1 := xr.cell 1 rfl
    have xrz1 := xr.frozen 1
    have xr2 := xr.cell 2 rfl
    have xrz2 := xr.frozen 2
    go_wp2
    go_ret
    exact ⟨rfl, hB⟩
  · skip
    by_cases c4 : 3 < r.kind
    · have d1 : ¬ r.kind < 2 := by omega
      have d2 : r.kind > 3 := by omega
      have hB : Below W.heap.size W (W.alloc (.cells #[.int .i64 r.kind, .int .u64 (r.seq : Int), .int .u64 (r.data : Int)] 24)) := ((Below.refl _ _).alloc (Nat.le_refl _) _)
      have xr := (Box.new 24 W [.int .i64 r.kind, .int .u64 (r.seq : Int), .int .u64 (r.data : Int)])
      go_enter Try.func7, Try.ntmps7
      go_wp2_with fail
      refine (shown08 _).mono ?_
      rintro e V1 ⟨rfl, hk⟩
      replace hB := below_seq hB hk
      replace xr := xr.seq hk
      clear hk
      have xr0 := xr.cell 0 rfl
      have xrz0 := xr.frozen 0
      have xr1 := xr.cell 1 rfl
      have xrz1 := xr.frozen 1
      have xr2 := xr.cell 2 rfl
      have xrz2 := xr.frozen 2
      go_wp2
      go_ret
      exact ⟨rfl, hB⟩
    · skip
      have d1 : ¬ r.kind < 2 := by omega
      have d3 : ¬ r.kind > 3 := by omega
      have ze : (bs (encL r)).size = 24 := by rw [bs_size, encL_length]
      have zb : (bs (bodyL r)).size = 22 := by rw [bs_size, bodyL_length]
      have zf : (bs (bodyL r ++ [255, 255])).size = 24 := by rw [bs_size, List.length_append, bodyL_length]; rfl
      have eB : (blankT (24 * (1 + p)) ++ bs (bodyL r) ++ blankT (2 + 24 * (q - p))) = blankT (24 * (1 + p)) ++ bs (bodyL r ++ [255, 255]) ++ blankT (24 * (q - p)) := by
        apply bl_inj; rw [← blank_append]; simp only [bl_append, bl_bs, bl_blank, List.append_assoc]; rfl
      obtain ⟨a1, a2, a3⟩ := state_put (t := bs (encL r)) (n := 1 + q) (i := 1 + p) (by omega) (by omega) ze
      obtain ⟨b1, b2, b3⟩ := state_put (t := bs (bodyL r ++ [255, 255])) (n := 1 + q) (i := 1 + p) (by omega) (by omega) zf
      rw [show 24 * (1 + q - (1 + p)) = 24 * (q - p) from by omega] at a1 a2 a3 b1 b2 b3
      rw [← eB] at b1 b2 b3
      rw [bl_bs] at a2 b2
      rw [st_enc hr ⟨by omega, by omega⟩ (by omega)] at a2
      rw [st_body ⟨by omega, by omega⟩] at b2
      have la : (statesL (blankT (24 * (1 + p)) ++ bs (encL r) ++ blankT (24 * (q - p)))).length = 1 + q := by rw [statesL_length, a1]; omega
      have lb : (statesL (blankT (24 * (1 + p)) ++ bs (bodyL r) ++ blankT (2 + 24 * (q - p)))).length = 1 + q := by rw [statesL_length, b1]; omega
      have GA := Lib.hid (fun (j : Nat) (hj : j < 1 + q) (hne : j ≠ p) => (show (statesL (blankT (24 * (1 + p)) ++ bs (encL r) ++ blankT (24 * (q - p))))[j]? = some 0 from by rw [statesL_get _ j (by rw [a1]; omega)]; have h := a3 (1 + j) (by omega) (by omega); rw [show ((1 + j : Nat) : Int) = (j : Int) + 1 from by omega] at h; rw [h]))
      have GB := Lib.hid (fun (j : Nat) (hj : j < 1 + q) (hne : j ≠ p) => (show (statesL (blankT (24 * (1 + p)) ++ bs (bodyL r) ++ blankT (2 + 24 * (q - p))))[j]? = some 0 from by rw [statesL_get _ j (by rw [b1]; omega)]; have h := b3 (1 + j) (by omega) (by omega); rw [show ((1 + j : Nat) : Int) = (j : Int) + 1 from by omega] at h; rw [h]))
      have PA := Lib.hid (show (statesL (blankT (24 * (1 + p)) ++ bs (encL r) ++ blankT (24 * (q - p))))[p]? = some 2 from by rw [statesL_get _ p (by rw [a1]; omega)]; rw [show ((1 + p : Nat) : Int) = (p : Int) + 1 from by omega] at a2; rw [a2])
      have PB := Lib.hid (show (statesL (blankT (24 * (1 + p)) ++ bs (bodyL r) ++ blankT (2 + 24 * (q - p))))[p]? = some 1 from by rw [statesL_get _ p (by rw [b1]; omega)]; rw [show ((1 + p : Nat) : Int) = (p : Int) + 1 from by omega] at b2; rw [b2])
      have sA : (blankT (24 * (1 + p)) ++ bs (encL r) ++ blankT (24 * (q - p))).size = 24 * (1 + q) + 24 := by rw [ByteArray.size_append, ByteArray.size_append, blankT_len, blankT_len, ze]; omega
      have sB : (blankT (24 * (1 + p)) ++ bs (bodyL r) ++ blankT (2 + 24 * (q - p))).size = 24 * (1 + q) + 24 := by rw [ByteArray.size_append, ByteArray.size_append, blankT_len, blankT_len, zb]; omega
      have TSA := Lib.hid (fun (V : World) => (show Calls Try.prog 19 #[.string (blankT (24 * (1 + p)) ++ bs (encL r) ++ blankT (24 * (q - p)))] V fun e W' => ∃ A c, e = .returned (.slice A (1 + q) c) ∧ IntsAt W' A (statesL (blankT (24 * (1 + p)) ++ bs (encL r) ++ blankT (24 * (q - p)))) ∧ Below V.heap.size V W' from by have h := own08States (blankT (24 * (1 + p)) ++ bs (encL r) ++ blankT (24 * (q - p))) V (by unfold maxLen; omega); rwa [la] at h))
      have TSB := Lib.hid (fun (V : World) => (show Calls Try.prog 19 #[.string (blankT (24 * (1 + p)) ++ bs (bodyL r) ++ blankT (2 + 24 * (q - p)))] V fun e W' => ∃ A c, e = .returned (.slice A (1 + q) c) ∧ IntsAt W' A (statesL (blankT (24 * (1 + p)) ++ bs (bodyL r) ++ blankT (2 + 24 * (q - p)))) ∧ Below V.heap.size V W' from by have h := own08States (blankT (24 * (1 + p)) ++ bs (bodyL r) ++ blankT (2 + 24 * (q - p))) V (by unfold maxLen; omega); rwa [lb] at h))
      have B1 := Lib.hid (fun (V : World) => (show Calls Try.prog 17 #[.int .i64 (24 * (1 + (p : Int)))] V fun e W' => e = .returned (.string (blankT (24 * (1 + p)))) ∧ W' = V from by have h := lawBlank08 (24 * (1 + (p : Int))) V (by omega); rwa [show (24 * (1 + (p : Int)) : Int).toNat = 24 * (1 + p) from by omega] at h))
      have B2 := Lib.hid (fun (V : World) => (show Calls Try.prog 17 #[.int .i64 (24 * (1 + (q : Int) - (1 + (p : Int))))] V fun e W' => e = .returned (.string (blankT (24 * (q - p)))) ∧ W' = V from by have h := lawBlank08 (24 * (1 + (q : Int) - (1 + (p : Int)))) V (by omega); rwa [show (24 * (1 + (q : Int) - (1 + (p : Int))) : Int).toNat = 24 * (q - p) from by omega] at h))
      have B3 := Lib.hid (fun (V : World) => (show Calls Try.prog 17 #[.int .i64 (2 + 24 * (1 + (q : Int) - (1 + (p : Int))))] V fun e W' => e = .returned (.string (blankT (2 + 24 * (q - p)))) ∧ W' = V from by have h := lawBlank08 (2 + 24 * (1 + (q : Int) - (1 + (p : Int)))) V (by omega); rwa [show (2 + 24 * (1 + (q : Int) - (1 + (p : Int))) : Int).toNat = 2 + 24 * (q - p) from by omega] at h))
      have TE := Lib.hid (fun (V : World) => own07Encode r V hr)
      have TY := Lib.hid (fun (V : World) => own07Body r V hr)
      have w1 : IntKind.i64.wrap (24 * (1 + (p : Int))) = 24 * (1 + (p : Int)) := IntWalk.i64_in _ (by omega)
      have w2 : IntKind.i64.wrap (1 + (q : Int) - (1 + (p : Int))) = 1 + (q : Int) - (1 + (p : Int)) := IntWalk.i64_in _ (by omega)
      have w3 : IntKind.i64.wrap (24 * (1 + (q : Int) - (1 + (p : Int)))) = 24 * (1 + (q : Int) - (1 + (p : Int))) := IntWalk.i64_in _ (by omega)
      have w4 : IntKind.i64.wrap (2 + 24 * (1 + (q : Int) - (1 + (p : Int)))) = 2 + 24 * (1 + (q : Int) - (1 + (p : Int))) := IntWalk.i64_in _ (by omega)
      have z1 : (blankT (24 * (1 + p))).size ≤ 400 := by rw [blankT_len]; omega
      have z2 : (blankT (24 * (q - p))).size ≤ 400 := by rw [blankT_len]; omega
      have z3 : (blankT (2 + 24 * (q - p))).size ≤ 400 := by rw [blankT_len]; omega
      clear eB a1 a2 a3 b1 b2 b3 la lb sA sB zf
      generalize statesL (blankT (24 * (1 + p)) ++ bs (encL r) ++ blankT (24 * (q - p))) = LA at *
      generalize statesL (blankT (24 * (1 + p)) ++ bs (bodyL r) ++ blankT (2 + 24 * (q - p))) = LB at *
      generalize blankT (24 * (1 + p)) = X1 at *
      generalize blankT (24 * (q - p)) = X2 at *
      generalize blankT (2 + 24 * (q - p)) = X3 at *
      generalize bs (encL r) = XE at *
      generalize bs (bodyL r) = XB at *
      have o1 : ¬ 9223372036854775807 < X1.size + XE.size := by omega
      have o2 : ¬ 9223372036854775807 < X1.size + XE.size + X2.size := by omega
      have o3 : ¬ 9223372036854775807 < X1.size + XB.size := by omega
      have o4 : ¬ 9223372036854775807 < X1.size + XB.size + X3.size := by omega
      clear ze zb z1 z2 z3
      have hB : Below W.heap.size W (W.alloc (.cells #[.int .i64 r.kind, .int .u64 (r.seq : Int), .int .u64 (r.data : Int)] 24)) := ((Below.refl _ _).alloc (Nat.le_refl _) _)
      have xr := (Box.new 24 W [.int .i64 r.kind, .int .u64 (r.seq : Int), .int .u64 (r.data : Int)])
      go_enter Try.func7, Try.ntmps7
      go_wp2_with fail
      refine (shown08 _).mono ?_
      rintro e V1 ⟨rfl, hk⟩
      replace hB := below_seq hB hk
      replace xr := xr.seq hk
      clear hk
      have xr0 := xr.cell 0 rfl
      have xrz0 := xr.frozen 0
      have xr1 := xr.cell 1 rfl
      have xrz1 := xr.frozen 1
      have xr2 := xr.cell 2 rfl
      have xrz2 := xr.frozen 2
      go_wp2_with fail
      clear xr0 xrz0 xr1 xrz1 xr2 xrz2
      replace hB := hB.drew
      replace xr := xr.drew
      refine wp_region_held_drew (S := fun w' => w'.cell? ⟨W.heap.size, 0, none⟩ = some (.int .i64 r.kind) ∧ w'.cell? ⟨W.heap.size, 1, none⟩ = some (.int .u64 (r.seq : Int)) ∧ w'.cell? ⟨W.heap.size, 2, none⟩ = some (.int .u64 (r.data : Int))) (by kernel_rfl) ?_ (fun hHeld => ?_)
      · exact ⟨xr.cell 0 rfl, xr.cell 1 rfl, xr.cell 2 rfl⟩
      generalize V1.drew = V2 at *
      refine wpAnyH_take (i := 0) (v := ?_) rfl (by kernel_rfl) (by kernel_rfl) (by kernel_rfl) (fun _ _ _ h => h) (Or.inl ⟨by rfl, ?_⟩) (by assumption) ?_
      rotate_left
      · intro w hSw; (try dsimp only at hSw); go_simp; try with_reducible rfl
      try simp only [Act.put, List.getElem_toArray, List.getElem_cons_zero, List.getElem_cons_succ, List.setIfInBounds_toArray, List.set_cons_zero, List.set_cons_succ]
      refine wpAnyH_take (i := 1) (v := ?_) rfl (by kernel_rfl) (by kernel_rfl) (by kernel_rfl) (fun _ _ _ h => h) (Or.inl ⟨by rfl, ?_⟩) (by assumption) ?_
      rotate_left
      · intro w hSw; (try dsimp only at hSw); go_simp; try with_reducible rfl
      try simp only [Act.put, List.getElem_toArray, List.getElem_cons_zero, List.getElem_cons_succ, List.setIfInBounds_toArray, List.set_cons_zero, List.set_cons_succ]
      refine wpAnyH_take (i := 3) (v := ?_) rfl (by kernel_rfl) (by kernel_rfl) (by kernel_rfl) (fun _ _ _ h => h) (Or.inl ⟨by rfl, ?_⟩) (by assumption) ?_
      rotate_left
      · intro w hSw; (try dsimp only at hSw); go_simp; try with_reducible rfl
      try simp only [Act.put, List.getElem_toArray, List.getElem_cons_zero, List.getElem_cons_succ, List.setIfInBounds_toArray, List.set_cons_zero, List.set_cons_succ]
      refine wpAnyH_take (i := 6) (v := ?_) rfl (by kernel_rfl) (by kernel_rfl) (by kernel_rfl) (fun _ _ _ h => h) (Or.inl ⟨by rfl, ?_⟩) (by assumption) ?_
      rotate_left
      · intro w hSw; (try dsimp only at hSw); go_simp; try with_reducible rfl
      try simp only [Act.put, List.getElem_toArray, List.getElem_cons_zero, List.getElem_cons_succ, List.setIfInBounds_toArray, List.set_cons_zero, List.set_cons_succ]
      refine wpAnyH_take (i := 7) (v := ?_) rfl (by kernel_rfl) (by kernel_rfl) (by kernel_rfl) (fun _ _ _ h => h) (Or.inl ⟨by rfl, ?_⟩) (by assumption) ?_
      rotate_left
      · intro w hSw; (try dsimp only at hSw); go_simp; try with_reducible rfl
      try simp only [Act.put, List.getElem_toArray, List.getElem_cons_zero, List.getElem_cons_succ, List.setIfInBounds_toArray, List.set_cons_zero, List.set_cons_succ]
      refine wpAnyH_take (i := 8) (v := ?_) rfl (by kernel_rfl) (by kernel_rfl) (by kernel_rfl) (fun _ _ _ h => h) (Or.inl ⟨by rfl, ?_⟩) (by assumption) ?_
      rotate_left
      · intro w hSw; (try dsimp only at hSw); go_simp; try with_reducible rfl
      try simp only [Act.put, List.getElem_toArray, List.getElem_cons_zero, List.getElem_cons_succ, List.setIfInBounds_toArray, List.set_cons_zero, List.set_cons_succ]
      refine wpAnyH_take (i := 9) (v := ?_) rfl (by kernel_rfl) (by kernel_rfl) (by kernel_rfl) (fun _ _ _ h => h) (Or.inl ⟨by rfl, ?_⟩) (by assumption) ?_
      rotate_left
      · intro w hSw; (try dsimp only at hSw); go_simp; try with_reducible rfl
      try simp only [Act.put, List.getElem_toArray, List.getElem_cons_zero, List.getElem_cons_succ, List.setIfInBounds_toArray, List.set_cons_zero, List.set_cons_succ]
      refine wpAnyH_ready (rs := [2]) (by kernel_rfl) (by simp) ?_
      refine AllReadyH.cons rfl (fun K hK => ?_) AllReadyH.nil
      have xr0 := xr.cell 0 rfl
      have xrz0 := xr.frozen 0
      have xr1 := xr.cell 1 rfl
      have xrz1 := xr.frozen 1
      have xr2 := xr.cell 2 rfl
      have xrz2 := xr.frozen 2
      go_simp
      refine (B1.out _).mono ?_
      rintro e w' ⟨rfl, hw⟩
      rw [hw]
      clear hw w'
      try go_wp2_with fail
      clear xr0 xrz0 xr1 xrz1 xr2 xrz2
      clear hHeld
      refine hK.out _ _ ?_ (fun hHeld => ?_)
      · exact ⟨xr.cell 0 rfl, xr.cell 1 rfl, xr.cell 2 rfl⟩
      clear hK K
      try simp only [Act.put, List.getElem_toArray, List.getElem_cons_zero, List.getElem_cons_succ, List.setIfInBounds_toArray, List.set_cons_zero, List.set_cons_succ]
      refine wpAnyH_ready (rs := [4]) (by kernel_rfl) (by simp) ?_
      refine AllReadyH.cons rfl (fun K hK => ?_) AllReadyH.nil
      have xr0 := xr.cell 0 rfl
      have xrz0 := xr.frozen 0
      have xr1 := xr.cell 1 rfl
      have xrz1 := xr.frozen 1
      have xr2 := xr.cell 2 rfl
      have xrz2 := xr.frozen 2
      go_simp
      refine (TE.out _).mono ?_
      rintro e V3 ⟨rfl, hk⟩
      clear xr0 xrz0 xr1 xrz1 xr2 xrz2
      replace hB := below_seq hB hk
      replace xr := xr.seq hk
      clear hk
      have xr0 := xr.cell 0 rfl
      have xrz0 := xr.frozen 0
      have xr1 := xr.cell 1 rfl
      have xrz1 := xr.frozen 1
      have xr2 := xr.cell 2 rfl
      have xrz2 := xr.frozen 2
      try go_wp2_with fail
      clear xr0 xrz0 xr1 xrz1 xr2 xrz2
      clear hHeld
      refine hK.out _ _ ?_ (fun hHeld => ?_)
      · exact ⟨xr.cell 0 rfl, xr.cell 1 rfl, xr.cell 2 rfl⟩
      clear hK K
      try simp only [Act.put, List.getElem_toArray, List.getElem_cons_zero, List.getElem_cons_succ, List.setIfInBounds_toArray, List.set_cons_zero, List.set_cons_succ]
      refine wpAnyH_take (i := 5) (v := ?_) rfl (by kernel_rfl) (by kernel_rfl) (by kernel_rfl) (fun _ _ _ h => h) (Or.inl ⟨by rfl, ?_⟩) (by assumption) ?_
      rotate_left
      · intro w hSw; (try dsimp only at hSw); go_simp; try with_reducible rfl
      try simp only [Act.put, List.getElem_toArray, List.getElem_cons_zero, List.getElem_cons_succ, List.setIfInBounds_toArray, List.set_cons_zero, List.set_cons_succ]
      refine wpAnyH_ready (rs := [10]) (by kernel_rfl) (by simp) ?_
      refine AllReadyH.cons rfl (fun K hK => ?_) AllReadyH.nil
      have xr0 := xr.cell 0 rfl
      have xrz0 := xr.frozen 0
      have xr1 := xr.cell 1 rfl
      have xrz1 := xr.frozen 1
      have xr2 := xr.cell 2 rfl
      have xrz2 := xr.frozen 2
      go_simp
      refine (B2.out _).mono ?_
      rintro e w' ⟨rfl, hw⟩
      rw [hw]
      clear hw w'
      try go_wp2_with fail
      clear xr0 xrz0 xr1 xrz1 xr2 xrz2
      clear hHeld
      refine hK.out _ _ ?_ (fun hHeld => ?_)
      · exact ⟨xr.cell 0 rfl, xr.cell 1 rfl, xr.cell 2 rfl⟩
      clear hK K
      try simp only [Act.put, List.getElem_toArray, List.getElem_cons_zero, List.getElem_cons_succ, List.setIfInBounds_toArray, List.set_cons_zero, List.set_cons_succ]
      refine wpAnyH_take (i := 11) (v := ?_) rfl (by kernel_rfl) (by kernel_rfl) (by kernel_rfl) (fun _ _ _ h => h) (Or.inl ⟨by rfl, ?_⟩) (by assumption) ?_
      rotate_left
      · intro w hSw; (try dsimp only at hSw); go_simp; try with_reducible rfl
      try simp only [Act.put, List.getElem_toArray, List.getElem_cons_zero, List.getElem_cons_succ, List.setIfInBounds_toArray, List.set_cons_zero, List.set_cons_succ]
      refine wpAnyH_ready (rs := [12]) (by kernel_rfl) (by simp) ?_
      refine AllReadyH.cons rfl (fun K hK => ?_) AllReadyH.nil
      have xr0 := xr.cell 0 rfl
      have xrz0 := xr.frozen 0
      have xr1 := xr.cell 1 rfl
      have xrz1 := xr.frozen 1
      have xr2 := xr.cell 2 rfl
      have xrz2 := xr.frozen 2
      go_simp
      refine (TSA.out _).mono ?_
      rintro e V4 ⟨AA, AAc, rfl, hA, hk⟩
      clear xr0 xrz0 xr1 xrz1 xr2 xrz2
      replace hB := below_seq hB hk
      replace xr := xr.seq hk
      clear hk
      have xr0 := xr.cell 0 rfl
      have xrz0 := xr.frozen 0
      have xr1 := xr.cell 1 rfl
      have xrz1 := xr.frozen 1
      have xr2 := xr.cell 2 rfl
      have xrz2 := xr.frozen 2
      try go_wp2_with fail
      clear xr0 xrz0 xr1 xrz1 xr2 xrz2
      clear hHeld
      refine hK.out _ _ ?_ (fun hHeld => ?_)
      · exact ⟨xr.cell 0 rfl, xr.cell 1 rfl, xr.cell 2 rfl⟩
      clear hK K
      try simp only [Act.put, List.getElem_toArray, List.getElem_cons_zero, List.getElem_cons_succ, List.setIfInBounds_toArray, List.set_cons_zero, List.set_cons_succ]
      refine wpAnyH_take (i := 13) (v := ?_) rfl (by kernel_rfl) (by kernel_rfl) (by kernel_rfl) (fun _ _ _ h => h) (Or.inl ⟨by rfl, ?_⟩) (by assumption) ?_
      rotate_left
      · intro w hSw; (try dsimp only at hSw); go_simp; try with_reducible rfl
      try simp only [Act.put, List.getElem_toArray, List.getElem_cons_zero, List.getElem_cons_succ, List.setIfInBounds_toArray, List.set_cons_zero, List.set_cons_succ]
      refine wpAnyH_done (by kernel_rfl) ?_ _
      clear hHeld
      have xr0 := xr.cell 0 rfl
      have xrz0 := xr.frozen 0
      have xr1 := xr.cell 1 rfl
      have xrz1 := xr.frozen 1
      have xr2 := xr.cell 2 rfl
      have xrz2 := xr.frozen 2
      go_wp2_with fail
      clear xr0 xrz0 xr1 xrz1 xr2 xrz2
      replace hB := hB.drew
      replace xr := xr.drew
      replace hA := hA.drew
      refine wp_region_held_drew (S := fun w' => w'.cell? ⟨W.heap.size, 0, none⟩ = some (.int .i64 r.kind) ∧ w'.cell? ⟨W.heap.size, 1, none⟩ = some (.int .u64 (r.seq : Int)) ∧ w'.cell? ⟨W.heap.size, 2, none⟩ = some (.int .u64 (r.data : Int))) (by kernel_rfl) ?_ (fun hHeld => ?_)
      · exact ⟨xr.cell 0 rfl, xr.cell 1 rfl, xr.cell 2 rfl⟩
      generalize V4.drew = V5 at *
      refine wpAnyH_take (i := 0) (v := ?_) rfl (by kernel_rfl) (by kernel_rfl) (by kernel_rfl) (fun _ _ _ h => h) (Or.inl ⟨by rfl, ?_⟩) (by assumption) ?_
      rotate_left
      · intro w hSw; (try dsimp only at hSw); go_simp; try with_reducible rfl
      try simp only [Act.put, List.getElem_toArray, List.getElem_cons_zero, List.getElem_cons_succ, List.setIfInBounds_toArray, List.set_cons_zero, List.set_cons_succ]
      refine wpAnyH_take (i := 1) (v := ?_) rfl (by kernel_rfl) (by kernel_rfl) (by kernel_rfl) (fun _ _ _ h => h) (Or.inl ⟨by rfl, ?_⟩) (by assumption) ?_
      rotate_left
      · intro w hSw; (try dsimp only at hSw); go_simp; try with_reducible rfl
      try simp only [Act.put, List.getElem_toArray, List.getElem_cons_zero, List.getElem_cons_succ, List.setIfInBounds_toArray, List.set_cons_zero, List.set_cons_succ]
      refine wpAnyH_take (i := 3) (v := ?_) rfl (by kernel_rfl) (by kernel_rfl) (by kernel_rfl) (fun _ _ _ h => h) (Or.inl ⟨by rfl, ?_⟩) (by assumption) ?_
      rotate_left
      · intro w hSw; (try dsimp only at hSw); go_simp; try with_reducible rfl
      try simp only [Act.put, List.getElem_toArray, List.getElem_cons_zero, List.getElem_cons_succ, List.setIfInBounds_toArray, List.set_cons_zero, List.set_cons_succ]
      refine wpAnyH_take (i := 6) (v := ?_) rfl (by kernel_rfl) (by kernel_rfl) (by kernel_rfl) (fun _ _ _ h => h) (Or.inl ⟨by rfl, ?_⟩) (by assumption) ?_
      rotate_left
      · intro w hSw; (try dsimp only at hSw); go_simp; try with_reducible rfl
      try simp only [Act.put, List.getElem_toArray, List.getElem_cons_zero, List.getElem_cons_succ, List.setIfInBounds_toArray, List.set_cons_zero, List.set_cons_succ]
      refine wpAnyH_take (i := 7) (v := ?_) rfl (by kernel_rfl) (by kernel_rfl) (by kernel_rfl) (fun _ _ _ h => h) (Or.inl ⟨by rfl, ?_⟩) (by assumption) ?_
      rotate_left
      · intro w hSw; (try dsimp only at hSw); go_simp; try with_reducible rfl
      try simp only [Act.put, List.getElem_toArray, List.getElem_cons_zero, List.getElem_cons_succ, List.setIfInBounds_toArray, List.set_cons_zero, List.set_cons_succ]
      refine wpAnyH_take (i := 8) (v := ?_) rfl (by kernel_rfl) (by kernel_rfl) (by kernel_rfl) (fun _ _ _ h => h) (Or.inl ⟨by rfl, ?_⟩) (by assumption) ?_
      rotate_left
      · intro w hSw; (try dsimp only at hSw); go_simp; try with_reducible rfl
      try simp only [Act.put, List.getElem_toArray, List.getElem_cons_zero, List.getElem_cons_succ, List.setIfInBounds_toArray, List.set_cons_zero, List.set_cons_succ]
      refine wpAnyH_take (i := 9) (v := ?_) rfl (by kernel_rfl) (by kernel_rfl) (by kernel_rfl) (fun _ _ _ h => h) (Or.inl ⟨by rfl, ?_⟩) (by assumption) ?_
      rotate_left
      · intro w hSw; (try dsimp only at hSw); go_simp; try with_reducible rfl
      try simp only [Act.put, List.getElem_toArray, List.getElem_cons_zero, List.getElem_cons_succ, List.setIfInBounds_toArray, List.set_cons_zero, List.set_cons_succ]
      refine wpAnyH_take (i := 10) (v := ?_) rfl (by kernel_rfl) (by kernel_rfl) (by kernel_rfl) (fun _ _ _ h => h) (Or.inl ⟨by rfl, ?_⟩) (by assumption) ?_
      rotate_left
      · intro w hSw; (try dsimp only at hSw); go_simp; try with_reducible rfl
      try simp only [Act.put, List.getElem_toArray, List.getElem_cons_zero, List.getElem_cons_succ, List.setIfInBounds_toArray, List.set_cons_zero, List.set_cons_succ]
      refine wpAnyH_ready (rs := [2]) (by kernel_rfl) (by simp) ?_
      refine AllReadyH.cons rfl (fun K hK => ?_) AllReadyH.nil
      have xr0 := xr.cell 0 rfl
      have xrz0 := xr.frozen 0
      have xr1 := xr.cell 1 rfl
      have xrz1 := xr.frozen 1
      have xr2 := xr.cell 2 rfl
      have xrz2 := xr.frozen 2
      go_simp
      refine (B1.out _).mono ?_
      rintro e w' ⟨rfl, hw⟩
      rw [hw]
      clear hw w'
      try go_wp2_with fail
      clear xr0 xrz0 xr1 xrz1 xr2 xrz2
      clear hHeld
      refine hK.out _ _ ?_ (fun hHeld => ?_)
      · exact ⟨xr.cell 0 rfl, xr.cell 1 rfl, xr.cell 2 rfl⟩
      clear hK K
      try simp only [Act.put, List.getElem_toArray, List.getElem_cons_zero, List.getElem_cons_succ, List.setIfInBounds_toArray, List.set_cons_zero, List.set_cons_succ]
      refine wpAnyH_ready (rs := [4]) (by kernel_rfl) (by simp) ?_
      refine AllReadyH.cons rfl (fun K hK => ?_) AllReadyH.nil
      have xr0 := xr.cell 0 rfl
      have xrz0 := xr.frozen 0
      have xr1 := xr.cell 1 rfl
      have xrz1 := xr.frozen 1
      have xr2 := xr.cell 2 rfl
      have xrz2 := xr.frozen 2
      go_simp
      refine (TY.out _).mono ?_
      rintro e V6 ⟨rfl, hk⟩
      clear xr0 xrz0 xr1 xrz1 xr2 xrz2
      replace hB := below_seq hB hk
      replace xr := xr.seq hk
      replace hA := hA.seq hk
      clear hk
      have xr0 := xr.cell 0 rfl
      have xrz0 := xr.frozen 0
      have xr1 := xr.cell 1 rfl
      have xrz1 := xr.frozen 1
      have xr2 := xr.cell 2 rfl
      have xrz2 := xr.frozen 2
      try go_wp2_with fail
      clear xr0 xrz0 xr1 xrz1 xr2 xrz2
      clear hHeld
      refine hK.out _ _ ?_ (fun hHeld => ?_)
      · exact ⟨xr.cell 0 rfl, xr.cell 1 rfl, xr.cell 2 rfl⟩
      clear hK K
      try simp only [Act.put, List.getElem_toArray, List.getElem_cons_zero, List.getElem_cons_succ, List.setIfInBounds_toArray, List.set_cons_zero, List.set_cons_succ]
      refine wpAnyH_take (i := 5) (v := ?_) rfl (by kernel_rfl) (by kernel_rfl) (by kernel_rfl) (fun _ _ _ h => h) (Or.inl ⟨by rfl, ?_⟩) (by assumption) ?_
      rotate_left
      · intro w hSw; (try dsimp only at hSw); go_simp; try with_reducible rfl
      try simp only [Act.put, List.getElem_toArray, List.getElem_cons_zero, List.getElem_cons_succ, List.setIfInBounds_toArray, List.set_cons_zero, List.set_cons_succ]
      refine wpAnyH_ready (rs := [11]) (by kernel_rfl) (by simp) ?_
      refine AllReadyH.cons rfl (fun K hK => ?_) AllReadyH.nil
      have xr0 := xr.cell 0 rfl
      have xrz0 := xr.frozen 0
      have xr1 := xr.cell 1 rfl
      have xrz1 := xr.frozen 1
      have xr2 := xr.cell 2 rfl
      have xrz2 := xr.frozen 2
      go_simp
      refine (B3.out _).mono ?_
      rintro e w' ⟨rfl, hw⟩
      rw [hw]
      clear hw w'
      try go_wp2_with fail
      clear xr0 xrz0 xr1 xrz1 xr2 xrz2
      clear hHeld
      refine hK.out _ _ ?_ (fun hHeld => ?_)
      · exact ⟨xr.cell 0 rfl, xr.cell 1 rfl, xr.cell 2 rfl⟩
      clear hK K
      try simp only [Act.put, List.getElem_toArray, List.getElem_cons_zero, List.getElem_cons_succ, List.setIfInBounds_toArray, List.set_cons_zero, List.set_cons_succ]
      refine wpAnyH_take (i := 12) (v := ?_) rfl (by kernel_rfl) (by kernel_rfl) (by kernel_rfl) (fun _ _ _ h => h) (Or.inl ⟨by rfl, ?_⟩) (by assumption) ?_
      rotate_left
      · intro w hSw; (try dsimp only at hSw); go_simp; try with_reducible rfl
      try simp only [Act.put, List.getElem_toArray, List.getElem_cons_zero, List.getElem_cons_succ, List.setIfInBounds_toArray, List.set_cons_zero, List.set_cons_succ]
      refine wpAnyH_ready (rs := [13]) (by kernel_rfl) (by simp) ?_
      refine AllReadyH.cons rfl (fun K hK => ?_) AllReadyH.nil
      have xr0 := xr.cell 0 rfl
      have xrz0 := xr.frozen 0
      have xr1 := xr.cell 1 rfl
      have xrz1 := xr.frozen 1
      have xr2 := xr.cell 2 rfl
      have xrz2 := xr.frozen 2
      go_simp
      refine (TSB.out _).mono ?_
      rintro e V7 ⟨AB, ABc, rfl, hA2, hk⟩
      clear xr0 xrz0 xr1 xrz1 xr2 xrz2
      replace hB := below_seq hB hk
      replace xr := xr.seq hk
      replace hA := hA.seq hk
      clear hk
      have xr0 := xr.cell 0 rfl
      have xrz0 := xr.frozen 0
      have xr1 := xr.cell 1 rfl
      have xrz1 := xr.frozen 1
      have xr2 := xr.cell 2 rfl
      have xrz2 := xr.frozen 2
      try go_wp2_with fail
      clear xr0 xrz0 xr1 xrz1 xr2 xrz2
      clear hHeld
      refine hK.out _ _ ?_ (fun hHeld => ?_)
      · exact ⟨xr.cell 0 rfl, xr.cell 1 rfl, xr.cell 2 rfl⟩
      clear hK K
      try simp only [Act.put, List.getElem_toArray, List.getElem_cons_zero, List.getElem_cons_succ, List.setIfInBounds_toArray, List.set_cons_zero, List.set_cons_succ]
      refine wpAnyH_take (i := 14) (v := ?_) rfl (by kernel_rfl) (by kernel_rfl) (by kernel_rfl) (fun _ _ _ h => h) (Or.inl ⟨by rfl, ?_⟩) (by assumption) ?_
      rotate_left
      · intro w hSw; (try dsimp only at hSw); go_simp; try with_reducible rfl
      try simp only [Act.put, List.getElem_toArray, List.getElem_cons_zero, List.getElem_cons_succ, List.setIfInBounds_toArray, List.set_cons_zero, List.set_cons_succ]
      refine wpAnyH_done (by kernel_rfl) ?_ _
      clear hHeld
      have xr0 := xr.cell 0 rfl
      have xrz0 := xr.frozen 0
      have xr1 := xr.cell 1 rfl
      have xrz1 := xr.frozen 1
      have xr2 := xr.cell 2 rfl
      have xrz2 := xr.frozen 2
      clear o1 o2 o3 o4 w1 w2 w3 w4 em en em2 en2 n3 wk1 wk2
      go_wp2
      go_loopw [11] (fun j w => ∃ k : Nat, k ≤ 1 + q ∧ j = .int .i64 k ∧ IntsAt w AA LA ∧ IntsAt w AB LB ∧ Below W.heap.size W w) (fun j _ => 1 + q - (intOf j).toNat)
      case atStart => exact ⟨0, by omega, rfl, hA, hA2, hB⟩
      case round =>
        clear xr0 xrz0 xr1 xrz1 xr2 xrz2
        clear hA hA2 hB xr
        obtain ⟨k, hk, rfl, hA, hA2, hB⟩ := hrel
        have u1 : IntKind.i64.wrap (1 + (p : Int) - 1) = (p : Int) := by rw [show 1 + (p : Int) - 1 = (p : Int) from by omega]; exact IntWalk.i64_in _ (by omega)
        have u2 : 1 + (p : Int) - 1 = (p : Int) := by omega
        by_cases hlt : k < 1 + q
        · have i0 : (0 : Int) ≤ (k : Int) := by omega
          have i1 : (k : Int) < 1 + (q : Int) := by omega
          by_cases hkp : k = p
          · have n4 : ((k : Int) != (p : Int)) = false := by rw [hkp]; simp
            clear hkp
            go_wp2
            go_roundw
            case rel => exact ⟨k + 1, by omega, by go_num, hA, hA2, hB⟩
            case measure => simp [intOf]; omega
          · have n4 : ((k : Int) != (p : Int)) = true := bne_iff_ne.2 (by omega)
            obtain ⟨g, off, rfl, y0⟩ := hA.at (GA.out k hlt hkp)
            obtain ⟨g2, off2, rfl, y1⟩ := hA2.at (GB.out k hlt hkp)
            clear hkp
            go_wp2
            go_roundw
            case rel => exact ⟨k + 1, by omega, by go_num, hA, hA2, hB⟩
            case measure => simp [intOf]; omega
        · obtain rfl : k = 1 + q := by omega
          obtain ⟨g, off, rfl, y0⟩ := hA.at PA.out
          obtain ⟨g2, off2, rfl, y1⟩ := hA2.at PB.out
          have j0 : (0 : Int) ≤ (p : Int) := by omega
          have j1 : (p : Int) < 1 + (q : Int) := by omega
          go_wp2
          go_ret
          exact ⟨rfl, hB⟩

theorem own : ownKnob Try.prog.godebug = none := by kernel_rfl

set_option maxRecDepth 100000 in
theorem lifted (os : Os) (started : os.Started) (H : Type) (enc : TypeId × Value → H) :
    ReturnsInHanded {} Try.checked os 7 .any (Rows.bankWritesSpec.pre6 enc Try.prog Try.f7 Rows.bankWritesRow.domain false) (Rows.bankWritesSpec.post enc Try.prog Try.f7 false true false false) := by
  refine returnsInHanded_of_change (C := Try.checked) own started (by kernel_rfl) Try.func7
    (ChangeSpec.witness6 (enc := enc) (C := Try.checked) false ⟨#[], #[.agg #[.int .i64 0, .int .u64 0, .int .u64 0], .int .u8 0, .int .u8 0], []⟩ 8 (by kernel_rfl) (by kernel_rfl) (by kernel_rfl) (by kernel_rfl)) ?_
  intro W base args ds gs before hval hW _ _
  have hW' := hW
  obtain ⟨p, q, hA0, hV, rfl, hfz, hnd⟩ := hW
  have hA : DataW.TrodAll enc Try.prog W 0 (fun _ => true) true Try.f7.params.toList args.toList ds p := hA0
  rw [Try.params7] at hA hval
  obtain ⟨v0, vs0, d0, ds0, p0, q0, hargs, rfl, rfl, h0, r0⟩ := trodAll_cons hA
  obtain ⟨v1, vs1, d1, ds1, p1, q1, rfl, rfl, rfl, h1, r1⟩ := trodAll_cons r0
  obtain ⟨v2, vs2, d2, ds2, p2, q2, rfl, rfl, rfl, h2, r2⟩ := trodAll_cons r1
  obtain ⟨rfl, rfl, rfl⟩ := trodAll_nil r2
  obtain rfl : args = #[v0, v1, v2] := by cases args; simp_all
  obtain ⟨rfl, rfl⟩ := trodVars_none hV
  have k0 := h0
  obtain ⟨s0, rfl, hs0⟩ := open_rec (hval 0 24 v0 rfl rfl) h0
  obtain ⟨a1, rfl, rfl, rfl, w1⟩ := open_int Try.underlying5 (hval 1 5 v1 rfl rfl) h1
  obtain ⟨c1, rfl⟩ := int_u8 w1
  obtain ⟨a2, rfl, rfl, rfl, w2⟩ := open_int Try.underlying5 (hval 2 5 v2 rfl rfl) h2
  obtain ⟨c2, rfl⟩ := int_u8 w2
  clear hA0
  simp only [List.append_nil] at hW'
  refine (walk s0 c1 c2 W hs0).mono fun e W' ⟨he, hB⟩ => ?_
  subst he
  exact ⟨_, rfl, ⟨_, _, _, [], _, [], hW', trodAll_cons_mk (shut_bool Try.underlying4 _) trodAll_mk0, (trodAll_cons_mk (Below.trod Try.laidOut (by kernel_rfl) (of_decide_eq_true (by kernel_rfl)) k0 hB (fun x hx => by simpa using hW'.lt x (by simp [hx]))) (trodAll_cons_mk (shut_int Try.underlying5 w1) (trodAll_cons_mk (shut_int Try.underlying5 w2) trodAll_mk0))), rfl, hB.frame _, fun h => by cases h⟩⟩

theorem holds : Rows.BankWritesSaid :=
  OpenClaim.holds_of_wide 7 Try.f7 rfl rfl rfl rfl rfl rfl rfl ⟨rfl, rfl, rfl, rfl, rfl⟩ rfl rfl rfl rfl rfl (by kernel_rfl) Try.func7 (by kernel_rfl)
    (of_decide_eq_true (by kernel_rfl)) (by unfold Func.isWrapper; first | (rw [if_pos (by decide +kernel)]; kernel_rfl) | (rw [if_neg (by decide +kernel)]; exact ⟨rfl, rfl⟩))
    (fun os started H enc _ => lifted os started H enc)
end Go.Proofs.Ytoemjfjmpmngead.BankWrites

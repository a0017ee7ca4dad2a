/- A blank bank takes as many records as it has slots, one behind the other, and the last one is the last one (ScanFills); no condition. -/
import Derived.Test.YtoemjfjmpmngeadScanLaw
import Derived.Test.YtoemjfjmpmngeadBankRef
import Derived.Deep.RegionHeld3
import Derived.WalkLawsBesides
import Derived.WalkSpells
import Derived.IntWalk
import Derived.Lib.Hide
import Derived.Test.YtoemjfjmpmngeadBox
import Derived.Test.YtoemjfjmpmngeadLayout
import Derived.Test.YtoemjfjmpmngeadU64s
import Derived.ProofKit
import Derived.OpenShut
import Derived.ChangeMaps5
import Derived.Test.YtoemjfjmpmngeadInts
namespace Go.Proofs.Ytoemjfjmpmngead.ScanFills
open Go.ChangeShapes Go.WideShapes Go.ChangeAt Go.RowKit Go.ChangeMaps
set_option linter.unusedVariables false
set_option linter.unusedSimpArgs false

set_option maxRecDepth 100000 in
set_option maxHeartbeats 32000000 in
theorem walk (n : UInt8) (l : List Nat) (lA : Option Addr) (lc : Nat) (W : World) (hl : RowsAt 1 u64V W lA l) (hlo : ∀ o ∈ l, o < 18446744073709551616) (hl1 : l.length ≤ lc) (hl2 : lc ≤ maxLen) :
    Calls Try.prog 12 #[.int .u8 (n.toNat : Int), .slice lA l.length lc] W fun e W' => e = .returned (.bool true) ∧ Below W.heap.size W W' := by
  obtain ⟨K, hK⟩ : ∃ K : Nat, K = 1 + n.toNat % 12 := ⟨_, rfl⟩
  have hK12 : 1 ≤ K ∧ K ≤ 12 := by omega
  have k0 : wrap64 (n.toNat : Int) = (n.toNat : Int) := w64_u8 n
  have kt : ((n.toNat : Int)).tmod 12 = (n.toNat : Int) % 12 := Int.tmod_eq_emod_of_nonneg (by omega)
  have kw : wrap64 (1 + ((n.toNat : Int)).tmod 12) = (K : Int) := by rw [kt]; unfold wrap64; omega
  clear kt
  by_cases hlen : l.length < K
  · have b1 : (l.length : Int) < (K : Int) := by omega
    clear hK hK12
    generalize (n.toNat : Int) = nn at *
    have hB : Below W.heap.size W W := Below.refl _ _
    go_enter Try.func12, Try.ntmps12
    go_wp2_with fail
    refine (shown09 _).mono ?_
    rintro e V1 ⟨rfl, hk⟩
    replace hB := below_seq hB hk
    clear hk
    go_wp2
    go_ret
    exact ⟨rfl, hB⟩
  · have b1 : ¬ (l.length : Int) < (K : Int) := by omega
    obtain ⟨D, hD⟩ : ∃ D : Nat → Nat, D = fun j => l.getD j 0 := ⟨_, rfl⟩
    have hDj : ∀ j : Nat, j < K → l[j]? = some (D j) := fun j hj => by rw [hD]; simp [List.getD, List.getElem?_eq_getElem (show j < l.length from by omega)]
    have hDo : ∀ j : Nat, j < K → D j < 18446744073709551616 := fun j hj => hlo _ (List.mem_of_getElem? (hDj j hj))
    clear hD
    have HA := fun (j : Nat) (hj : j ≤ K) => fill_all K D hK12 hDo j hj
    have hz : ∀ j, j ≤ K → (fillT K D j).size ≤ maxLen := fun j hj => by rw [(HA j hj).1]; unfold maxLen; omega
    have TE1 := Lib.hid (fun (V : World) => (show Calls Try.prog 14 #[.agg #[.int .i64 1, .int .u64 1, .int .u64 0]] V fun e W' => e = .returned (.string (bs (encL ⟨1, 1, 0⟩))) ∧ Below V.heap.size V W' from own07Encode ⟨1, 1, 0⟩ V ⟨by decide, by decide, by decide⟩))
    have TB := Lib.hid (fun (V : World) => (show Calls Try.prog 30 #[.int .i64 (24 * (K : Int))] V fun e W' => e = .returned (.string (blankT (24 * K))) ∧ W' = V from by have h := lawBlank09 (24 * (K : Int)) V (by omega); rwa [show (24 * (K : Int)).toNat = 24 * K from by omega] at h))
    have TNx := Lib.hid (fun (j : Nat) (V : World) (hj : j < K) => (show Calls Try.prog 29 #[.string (fillT K D j)] V fun e W' => e = .returned (.int .i64 ((j + 1 : Nat) : Int)) ∧ Below V.heap.size V W' from by have h := own09Next (fillT K D j) V (hz j (by omega)); rwa [(HA j (by omega)).2.2.2.1, if_neg (by omega)] at h))
    have TNe := Lib.hid (fun (V : World) => (show Calls Try.prog 29 #[.string (fillT K D K)] V fun e W' => e = .returned (.int .i64 0) ∧ Below V.heap.size V W' from by have h := own09Next (fillT K D K) V (hz K (Nat.le_refl _)); rwa [(HA K (Nat.le_refl _)).2.2.2.1, if_pos rfl] at h))
    have TGo := Lib.hid (fun (j : Nat) (V : World) (hj : j ≤ K) => (show Calls Try.prog 28 #[.string (fillT K D j)] V fun e W' => e = .returned (.int .i64 (j : Int)) ∧ Below V.heap.size V W' from by have h := own09Good (fillT K D j) V (hz j hj); rwa [(HA j hj).2.2.2.2.1] at h))
    have TE2 := Lib.hid (fun (j : Nat) (V : World) (hj : j < K) => (show Calls Try.prog 14 #[.agg #[.int .i64 2, .int .u64 ((j : Int) + 1), .int .u64 (D j : Int)]] V fun e W' => e = .returned (.string (bs (encL ⟨2, j + 1, D j⟩))) ∧ Below V.heap.size V W' from own07Encode ⟨2, j + 1, D j⟩ V ⟨⟨by show (-9223372036854775808 : Int) ≤ 2; decide, by show (2 : Int) ≤ 9223372036854775807; decide⟩, by show j + 1 < _; omega, hDo j hj⟩))
    have hlast : ∀ j, j < K → lastG (fillT K D (j + 1)) (slotsN (fillT K D (j + 1))) = some ⟨2, j + 1, D j⟩ := fun j hj => by have h := HA (j + 1) hj; rw [h.2.1, h.2.2.2.2.2, if_neg (by omega)]; rfl
    have TLs := Lib.hid (fun (j : Nat) (V : World) (hj : j < K) => (show Calls Try.prog 25 #[.string (fillT K D (j + 1))] V fun e W' => e = .returned (.tuple #[.agg #[.int .i64 2, .int .u64 ((j : Int) + 1), .int .u64 (D j : Int)], .int .i64 0]) ∧ Below V.heap.size V W' from by
      have h := own09Last (fillT K D (j + 1)) V (hz (j + 1) hj)
      rwa [show lastR (fillT K D (j + 1)) = ⟨2, j + 1, D j⟩ from by unfold lastR; rw [hlast j hj]; rfl, show lastE (fillT K D (j + 1)) = 0 from by unfold lastE; rw [hlast j hj]; rfl] at h))
    have TSo := Lib.hid (fun (j : Nat) (V : World) (hj : j < K) => (show Calls Try.prog 31 #[.string (fillT K D (j + 1))] V fun e W' => e = .returned (.bool true) ∧ Below V.heap.size V W' from by
      have h := own09Sound (fillT K D (j + 1)) V (hz (j + 1) hj)
      rwa [show soundB (fillT K D (j + 1)) = true from by unfold soundB genE lastE; rw [if_pos (HA (j + 1) hj).2.2.1, hlast j hj]; rfl] at h))
    have HZ := Lib.hid (fun (j : Nat) (hj : j ≤ K) => (HA j hj).1)
    have HD := Lib.hid hDj
    have hf0 : bs (encL ⟨1, 1, 0⟩) ++ blankT (24 * K) = fillT K D 0 := rfl
    have zE : (bs (encL ⟨1, 1, 0⟩)).size = 24 := by rw [bs_size, encL_length]
    have zB := blankT_len (24 * K)
    have oo : ¬ 9223372036854775807 < (bs (encL ⟨1, 1, 0⟩)).size + (blankT (24 * K)).size := by omega
    have k24 : IntKind.i64.wrap (24 * (K : Int)) = 24 * (K : Int) := IntWalk.i64_in _ (by omega)
    have k25 : IntKind.i64.wrap (24 * (K : Int) + 24) = 24 * (K : Int) + 24 := IntWalk.i64_in _ (by omega)
    clear HA hz hlast hDj hDo zE zB hlen hK
    have hf := Lib.hid hf0
    clear hf0
    have hlr := hl
    clear hl
    generalize (n.toNat : Int) = nn at *
    generalize bs (encL ⟨1, 1, 0⟩) = M0 at *
    generalize blankT (24 * K) = B0 at *
    have hB : Below W.heap.size W W := Below.refl _ _
    go_enter Try.func12, Try.ntmps12
    go_wp2_with fail
    refine (shown09 _).mono ?_
    rintro e V1 ⟨rfl, hk⟩
    replace hB := below_seq hB hk
    replace hlr := hlr.seq hk
    clear hk
    go_wp2_with fail
    refine (TE1.out _).mono ?_
    rintro e V2 ⟨rfl, hk⟩
    replace hB := below_seq hB hk
    replace hlr := hlr.seq hk
    clear hk
    go_wp2_with fail
    refine (TB.out _).mono ?_
    rintro e w' ⟨rfl, hw⟩
    rw [hw]
    clear hw w'
    go_wp2
    rw [hf.out]
    go_loopw [6, 7] (fun s i w => ∃ j : Nat, j ≤ K ∧ i = .int .i64 ((j + 1 : Nat) : Int) ∧ s = .string (fillT K D j) ∧ RowsAt 1 u64V w lA l ∧ Below W.heap.size W w) (fun _ i _ => K + 1 - (intOf i).toNat)
    case atStart => exact ⟨0, by omega, rfl, rfl, hlr, hB⟩
    case round =>
      clear hlr hB
      obtain ⟨j, hj, rfl, rfl, hlr, hB⟩ := hrel
      by_cases hlt : j < K
      · have i1 : ((j + 1 : Nat) : Int) ≤ (K : Int) := by omega
        have hzz := HZ.out j (by omega)
        have hD1 := HD.out j hlt
        have ze : (bs (encL ⟨2, j + 1, D j⟩)).size = 24 := by rw [bs_size, encL_length]
        have TLj := Lib.hid (fun (V : World) => (show Calls Try.prog 25 #[.string ((fillT K D j).extract 0 (24 * (j + 1)) ++ bs (encL ⟨2, j + 1, D j⟩) ++ (fillT K D j).extract (24 * (j + 1) + 24) (fillT K D j).size)] V fun e W' => e = .returned (.tuple #[.agg #[.int .i64 2, .int .u64 ((j : Int) + 1), .int .u64 (D j : Int)], .int .i64 0]) ∧ Below V.heap.size V W' from TLs.out j V hlt))
        have TSj := Lib.hid (fun (V : World) => (show Calls Try.prog 31 #[.string ((fillT K D j).extract 0 (24 * (j + 1)) ++ bs (encL ⟨2, j + 1, D j⟩) ++ (fillT K D j).extract (24 * (j + 1) + 24) (fillT K D j).size)] V fun e W' => e = .returned (.bool true) ∧ Below V.heap.size V W' from TSo.out j V hlt))
        have HFj := Lib.hid (show fillT K D (j + 1) = ((fillT K D j).extract 0 (24 * (j + 1)) ++ bs (encL ⟨2, j + 1, D j⟩) ++ (fillT K D j).extract (24 * (j + 1) + 24) (fillT K D j).size) from rfl)
        have TNj := Lib.hid (fun (V : World) => TNx.out j V hlt)
        have TGj := Lib.hid (fun (V : World) => TGo.out j V hj)
        have TEj := Lib.hid (fun (V : World) => TE2.out j V hlt)
        clear TLs TSo TNx TGo TE2 HZ HD
        generalize hS : fillT K D j = s at *
        generalize hS' : fillT K D (j + 1) = s' at *
        generalize bs (encL ⟨2, j + 1, D j⟩) = M at *
        generalize D j = d at *
        have w1 : IntKind.i64.wrap (24 * ((j : Int) + 1)) = 24 * ((j : Int) + 1) := IntWalk.i64_in _ (by omega)
        have w2 : IntKind.i64.wrap (24 * ((j : Int) + 1) + 24) = 24 * ((j : Int) + 1) + 24 := IntWalk.i64_in _ (by omega)
        have w3 : IntKind.i64.wrap ((j : Int) + 1 + 1) = (j : Int) + 1 + 1 := IntWalk.i64_in _ (by omega)
        have t1 : (24 * ((j : Int) + 1)).toNat = 24 * (j + 1) := by omega
        have t2 : (24 * ((j : Int) + 1) + 24).toNat = 24 * (j + 1) + 24 := by omega
        have v0 : (0 : Int) ≤ 24 * ((j : Int) + 1) := by omega
        have v1 : (0 : Int) ≤ 24 * ((j : Int) + 1) + 24 := by omega
        have v2 : 24 * ((j : Int) + 1) ≤ (s.size : Int) := by omega
        have v3 : 24 * ((j : Int) + 1) + 24 ≤ (s.size : Int) := by omega
        have o1 : ¬ 9223372036854775807 < 24 * (j + 1) + M.size := by omega
        have o2 : ¬ 9223372036854775807 < 24 * (j + 1) + M.size + (s.size - (24 * (j + 1) + 24)) := by omega
        have o3 : ¬ 9223372036854775807 < min (24 * (j + 1)) s.size + M.size := by omega
        have o4 : ¬ 9223372036854775807 < min (24 * (j + 1)) s.size + M.size + (s.size - (24 * (j + 1) + 24)) := by omega
        obtain ⟨g, off, rfl, _, _⟩ := hlr.at hD1
        have j0 : (0 : Int) ≤ (j : Int) := by omega
        have j1 : (j : Int) < (l.length : Int) := by omega
        have j2 : IntKind.i64.wrap ((j : Int) + 1 - 1) = (j : Int) := by rw [IntWalk.i64_in _ (by omega)]; omega
        have j3 : (j : Int) + 1 - 1 = (j : Int) := by omega
        have j4 : (0 : Int) ≤ (j : Int) + 1 := by omega
        have j5 : ((s.size : Int) != 24 * (K : Int) + 24) = false := by rw [hzz]; exact bne_eq_false_iff_eq.2 (by omega)
        have j6 : IntKind.u64.wrap ((j : Int) + 1) = (j : Int) + 1 := IntWalk.u64_in _ (by omega)
        have HSj := Lib.hid hS'
        clear hzz ze hS hS'
        go_wp2_with fail
        refine (TNj.out _).mono ?_
        rintro e V3 ⟨rfl, hk⟩
        replace hB := below_seq hB hk
        replace hlr := hlr.seq hk
        clear hk
        go_wp2_with fail
        refine (TGj.out _).mono ?_
        rintro e V4 ⟨rfl, hk⟩
        replace hB := below_seq hB hk
        replace hlr := hlr.seq hk
        clear hk
        obtain ⟨_, _, he, _, hcell⟩ := hlr.at hD1
        cases he
        have hc0 := hcell 0 (by decide)
        rw [show (u64V d)[0]? = some (.int .u64 (d : Int)) from rfl, Nat.mul_one, Nat.add_zero] at hc0
        clear hcell
        have xq := Box.new 24 V4 [.int .i64 2, .int .u64 ((j : Int) + 1), .int .u64 (d : Int)]
        have le_xq : W.heap.size ≤ V4.heap.size := hB.size
        replace hlr := hlr.alloc (.cells #[.int .i64 2, .int .u64 ((j : Int) + 1), .int .u64 (d : Int)] 24)
        replace hB := hB.alloc hB.size (.cells #[.int .i64 2, .int .u64 ((j : Int) + 1), .int .u64 (d : Int)] 24)
        have xq0 := xq.cell 0 rfl
        have xqz0 := xq.frozen 0
        have xq1 := xq.cell 1 rfl
        have xqz1 := xq.frozen 1
        have xq2 := xq.cell 2 rfl
        have xqz2 := xq.frozen 2
        obtain ⟨_, _, he, _, hcell⟩ := hlr.at hD1
        cases he
        have hc1 := hcell 0 (by decide)
        rw [show (u64V d)[0]? = some (.int .u64 (d : Int)) from rfl, Nat.mul_one, Nat.add_zero] at hc1
        clear hcell
        clear hD1
        go_wp2_with fail
        generalize (V4.alloc (.cells #[.int .i64 2, .int .u64 ((j : Int) + 1), .int .u64 (d : Int)] 24)) = V5 at *
        clear xq0 xqz0 xq1 xqz1 xq2 xqz2
        replace hB := hB.drew
        replace xq := xq.drew
        replace hlr := hlr.drew
        refine wp_region_held_drew (S := fun w' => w'.cell? ⟨V4.heap.size, 0, none⟩ = some (.int .i64 2) ∧ w'.cell? ⟨V4.heap.size, 1, none⟩ = some (.int .u64 ((j : Int) + 1)) ∧ w'.cell? ⟨V4.heap.size, 2, none⟩ = some (.int .u64 (d : Int))) (by kernel_rfl) ?_ (fun hHeld => ?_)
        · exact ⟨xq.cell 0 rfl, xq.cell 1 rfl, xq.cell 2 rfl⟩
        generalize V5.drew = V6 at *
        refine wpAnyH_take (i := 0) (v := ?_) rfl (by kernel_rfl) (by kernel_rfl) (by kernel_rfl) (fun _ _ _ h => h) (Or.inl ⟨by rfl, ?_⟩) (by assumption) ?_
        rotate_left
        · intro w hSw; (try dsimp only at hSw); go_simp; try with_reducible rfl
        try simp only [Act.put, List.getElem_toArray, List.getElem_cons_zero, List.getElem_cons_succ, List.setIfInBounds_toArray, List.set_cons_zero, List.set_cons_succ]
        refine wpAnyH_take (i := 1) (v := ?_) rfl (by kernel_rfl) (by kernel_rfl) (by kernel_rfl) (fun _ _ _ h => h) (Or.inl ⟨by rfl, ?_⟩) (by assumption) ?_
        rotate_left
        · intro w hSw; (try dsimp only at hSw); go_simp; try with_reducible rfl
        try simp only [Act.put, List.getElem_toArray, List.getElem_cons_zero, List.getElem_cons_succ, List.setIfInBounds_toArray, List.set_cons_zero, List.set_cons_succ]
        refine wpAnyH_take (i := 2) (v := ?_) rfl (by kernel_rfl) (by kernel_rfl) (by kernel_rfl) (fun _ _ _ h => h) (Or.inl ⟨by rfl, ?_⟩) (by assumption) ?_
        rotate_left
        · intro w hSw; (try dsimp only at hSw); go_simp; try with_reducible rfl
        try simp only [Act.put, List.getElem_toArray, List.getElem_cons_zero, List.getElem_cons_succ, List.setIfInBounds_toArray, List.set_cons_zero, List.set_cons_succ]
        refine wpAnyH_take (i := 3) (v := ?_) rfl (by kernel_rfl) (by kernel_rfl) (by kernel_rfl) (fun _ _ _ h => h) (Or.inl ⟨by rfl, ?_⟩) (by assumption) ?_
        rotate_left
        · intro w hSw; (try dsimp only at hSw); go_simp; try with_reducible rfl
        try simp only [Act.put, List.getElem_toArray, List.getElem_cons_zero, List.getElem_cons_succ, List.setIfInBounds_toArray, List.set_cons_zero, List.set_cons_succ]
        refine wpAnyH_take (i := 4) (v := ?_) rfl (by kernel_rfl) (by kernel_rfl) (by kernel_rfl) (fun _ _ _ h => h) (Or.inl ⟨by rfl, ?_⟩) (by assumption) ?_
        rotate_left
        · intro w hSw; (try dsimp only at hSw); go_simp; try with_reducible rfl
        try simp only [Act.put, List.getElem_toArray, List.getElem_cons_zero, List.getElem_cons_succ, List.setIfInBounds_toArray, List.set_cons_zero, List.set_cons_succ]
        refine wpAnyH_take (i := 7) (v := ?_) rfl (by kernel_rfl) (by kernel_rfl) (by kernel_rfl) (fun _ _ _ h => h) (Or.inl ⟨by rfl, ?_⟩) (by assumption) ?_
        rotate_left
        · intro w hSw; (try dsimp only at hSw); go_simp; try with_reducible rfl
        try simp only [Act.put, List.getElem_toArray, List.getElem_cons_zero, List.getElem_cons_succ, List.setIfInBounds_toArray, List.set_cons_zero, List.set_cons_succ]
        refine wpAnyH_take (i := 8) (v := ?_) rfl (by kernel_rfl) (by kernel_rfl) (by kernel_rfl) (fun _ _ _ h => h) (Or.inl ⟨by rfl, ?_⟩) (by assumption) ?_
        rotate_left
        · intro w hSw; (try dsimp only at hSw); go_simp; try with_reducible rfl
        try simp only [Act.put, List.getElem_toArray, List.getElem_cons_zero, List.getElem_cons_succ, List.setIfInBounds_toArray, List.set_cons_zero, List.set_cons_succ]
        refine wpAnyH_take (i := 9) (v := ?_) rfl (by kernel_rfl) (by kernel_rfl) (by kernel_rfl) (fun _ _ _ h => h) (Or.inl ⟨by rfl, ?_⟩) (by assumption) ?_
        rotate_left
        · intro w hSw; (try dsimp only at hSw); go_simp; try with_reducible rfl
        try simp only [Act.put, List.getElem_toArray, List.getElem_cons_zero, List.getElem_cons_succ, List.setIfInBounds_toArray, List.set_cons_zero, List.set_cons_succ]
        refine wpAnyH_take (i := 10) (v := ?_) rfl (by kernel_rfl) (by kernel_rfl) (by kernel_rfl) (fun _ _ _ h => h) (Or.inl ⟨by rfl, ?_⟩) (by assumption) ?_
        rotate_left
        · intro w hSw; (try dsimp only at hSw); go_simp; try with_reducible rfl
        try simp only [Act.put, List.getElem_toArray, List.getElem_cons_zero, List.getElem_cons_succ, List.setIfInBounds_toArray, List.set_cons_zero, List.set_cons_succ]
        refine wpAnyH_take (i := 11) (v := ?_) rfl (by kernel_rfl) (by kernel_rfl) (by kernel_rfl) (fun _ _ _ h => h) (Or.inl ⟨by rfl, ?_⟩) (by assumption) ?_
        rotate_left
        · intro w hSw; (try dsimp only at hSw); go_simp; try with_reducible rfl
        try simp only [Act.put, List.getElem_toArray, List.getElem_cons_zero, List.getElem_cons_succ, List.setIfInBounds_toArray, List.set_cons_zero, List.set_cons_succ]
        refine wpAnyH_ready (rs := [5]) (by kernel_rfl) (by simp) ?_
        refine AllReadyH.cons rfl (fun K hK => ?_) AllReadyH.nil
        have xq0 := xq.cell 0 rfl
        have xqz0 := xq.frozen 0
        have xq1 := xq.cell 1 rfl
        have xqz1 := xq.frozen 1
        have xq2 := xq.cell 2 rfl
        have xqz2 := xq.frozen 2
        go_simp
        refine (TEj.out _).mono ?_
        rintro e V7 ⟨rfl, hk⟩
        clear xq0 xqz0 xq1 xqz1 xq2 xqz2
        replace hB := below_seq hB hk
        replace xq := xq.seq hk
        replace hlr := hlr.seq hk
        clear hk
        have xq0 := xq.cell 0 rfl
        have xqz0 := xq.frozen 0
        have xq1 := xq.cell 1 rfl
        have xqz1 := xq.frozen 1
        have xq2 := xq.cell 2 rfl
        have xqz2 := xq.frozen 2
        try go_wp2_with fail
        clear xq0 xqz0 xq1 xqz1 xq2 xqz2
        clear hHeld
        refine hK.out _ _ ?_ (fun hHeld => ?_)
        · exact ⟨xq.cell 0 rfl, xq.cell 1 rfl, xq.cell 2 rfl⟩
        clear hK K
        try simp only [Act.put, List.getElem_toArray, List.getElem_cons_zero, List.getElem_cons_succ, List.setIfInBounds_toArray, List.set_cons_zero, List.set_cons_succ]
        refine wpAnyH_take (i := 6) (v := ?_) rfl (by kernel_rfl) (by kernel_rfl) (by kernel_rfl) (fun _ _ _ h => h) (Or.inl ⟨by rfl, ?_⟩) (by assumption) ?_
        rotate_left
        · intro w hSw; (try dsimp only at hSw); go_simp; try with_reducible rfl
        try simp only [Act.put, List.getElem_toArray, List.getElem_cons_zero, List.getElem_cons_succ, List.setIfInBounds_toArray, List.set_cons_zero, List.set_cons_succ]
        refine wpAnyH_take (i := 12) (v := ?_) rfl (by kernel_rfl) (by kernel_rfl) (by kernel_rfl) (fun _ _ _ h => h) (Or.inl ⟨by rfl, ?_⟩) (by assumption) ?_
        rotate_left
        · intro w hSw; (try dsimp only at hSw); go_simp; try with_reducible rfl
        try simp only [Act.put, List.getElem_toArray, List.getElem_cons_zero, List.getElem_cons_succ, List.setIfInBounds_toArray, List.set_cons_zero, List.set_cons_succ]
        refine wpAnyH_take (i := 13) (v := ?_) rfl (by kernel_rfl) (by kernel_rfl) (by kernel_rfl) (fun _ _ _ h => h) (Or.inl ⟨by rfl, ?_⟩) (by assumption) ?_
        rotate_left
        · intro w hSw; (try dsimp only at hSw); go_simp; try with_reducible rfl
        try simp only [Act.put, List.getElem_toArray, List.getElem_cons_zero, List.getElem_cons_succ, List.setIfInBounds_toArray, List.set_cons_zero, List.set_cons_succ]
        refine wpAnyH_done (by kernel_rfl) ?_ _
        clear hHeld
        have xq0 := xq.cell 0 rfl
        have xqz0 := xq.frozen 0
        have xq1 := xq.cell 1 rfl
        have xqz1 := xq.frozen 1
        have xq2 := xq.cell 2 rfl
        have xqz2 := xq.frozen 2
        go_wp2_with fail
        refine (TLj.out _).mono ?_
        rintro e V8 ⟨rfl, hk⟩
        clear xq0 xqz0 xq1 xqz1 xq2 xqz2
        replace hB := below_seq hB hk
        replace xq := xq.seq hk
        replace hlr := hlr.seq hk
        clear hk
        have xx := Box.new 24 V8 [.int .i64 2, .int .u64 ((j : Int) + 1), .int .u64 (d : Int)]
        have ne_xx_xq : V8.heap.size ≠ V4.heap.size := Nat.ne_of_gt xq.lt
        have le_xx : W.heap.size ≤ V8.heap.size := hB.size
        replace xq := xq.alloc (.cells #[.int .i64 2, .int .u64 ((j : Int) + 1), .int .u64 (d : Int)] 24)
        replace hlr := hlr.alloc (.cells #[.int .i64 2, .int .u64 ((j : Int) + 1), .int .u64 (d : Int)] 24)
        replace hB := hB.alloc hB.size (.cells #[.int .i64 2, .int .u64 ((j : Int) + 1), .int .u64 (d : Int)] 24)
        have xq0 := xq.cell 0 rfl
        have xqz0 := xq.frozen 0
        have xq1 := xq.cell 1 rfl
        have xqz1 := xq.frozen 1
        have xq2 := xq.cell 2 rfl
        have xqz2 := xq.frozen 2
        have xx0 := xx.cell 0 rfl
        have xxz0 := xx.frozen 0
        have xx1 := xx.cell 1 rfl
        have xxz1 := xx.frozen 1
        have xx2 := xx.cell 2 rfl
        have xxz2 := xx.frozen 2
        go_wp2_with fail
        refine (TSj.out _).mono ?_
        rintro e V9 ⟨rfl, hk⟩
        clear xq0 xqz0 xq1 xqz1 xq2 xqz2 xx0 xxz0 xx1 xxz1 xx2 xxz2
        replace hB := below_seq hB hk
        replace xq := xq.seq hk
        replace xx := xx.seq hk
        replace hlr := hlr.seq hk
        clear hk
        have xq0 := xq.cell 0 rfl
        have xqz0 := xq.frozen 0
        have xq1 := xq.cell 1 rfl
        have xqz1 := xq.frozen 1
        have xq2 := xq.cell 2 rfl
        have xqz2 := xq.frozen 2
        have xx0 := xx.cell 0 rfl
        have xxz0 := xx.frozen 0
        have xx1 := xx.cell 1 rfl
        have xxz1 := xx.frozen 1
        have xx2 := xx.cell 2 rfl
        have xxz2 := xx.frozen 2
        go_wp2
        go_roundw
        clear xq0 xqz0 xq1 xqz1 xq2 xqz2 xx0 xxz0 xx1 xxz1 xx2 xxz2
        case rel => exact ⟨j + 1, by omega, by go_num, by rw [HSj.out, HFj.out], hlr, hB⟩
        case measure => simp [intOf]; omega
      · obtain rfl : j = K := by omega
        have i1 : ¬ ((j + 1 : Nat) : Int) ≤ (j : Int) := by omega
        have TGk := Lib.hid (fun (V : World) => TGo.out j V (Nat.le_refl _))
        clear TGo
        go_wp2_with fail
        refine (TNe.out _).mono ?_
        rintro e V3 ⟨rfl, hk⟩
        replace hB := below_seq hB hk
        replace hlr := hlr.seq hk
        clear hk
        go_wp2_with fail
        refine (TGk.out _).mono ?_
        rintro e V4 ⟨rfl, hk⟩
        replace hB := below_seq hB hk
        replace hlr := hlr.seq hk
        clear hk
        go_wp2
        go_ret
        exact ⟨rfl, hB⟩

theorem own : ownKnob Try.prog.godebug = none := by kernel_rfl

set_option maxRecDepth 100000 in
theorem lifted (os : Os) (started : os.Started) (H : Type) (enc : TypeId × Value → H) :
    ReturnsInHanded {} Try.checked os 12 .any (Rows.scanFillsSpec.pre6 enc Try.prog Try.f12 Rows.scanFillsRow.domain false) (Rows.scanFillsSpec.post enc Try.prog Try.f12 false true false false) := by
  refine returnsInHanded_of_change (C := Try.checked) own started (by kernel_rfl) Try.func12
    (ChangeSpec.witness6 (enc := enc) (C := Try.checked) false ⟨#[], #[.int .u8 0, .slice none 0 0], []⟩ 8 (by kernel_rfl) (by kernel_rfl) (by kernel_rfl) (by kernel_rfl)) ?_
  intro W base args ds gs before hval hW _ _
  have hW' := hW
  obtain ⟨p, q, hA0, hV, rfl, hfz, hnd⟩ := hW
  have hA : DataW.TrodAll enc Try.prog W 0 (fun _ => true) true Try.f12.params.toList args.toList ds p := hA0
  rw [Try.params12] at hA hval
  obtain ⟨v0, vs0, d0, ds0, p0, q0, hargs, rfl, rfl, h0, r0⟩ := trodAll_cons hA
  obtain ⟨v1, vs1, d1, ds1, p1, q1, rfl, rfl, rfl, h1, r1⟩ := trodAll_cons r0
  obtain ⟨rfl, rfl, rfl⟩ := trodAll_nil r1
  obtain rfl : args = #[v0, v1] := by cases args; simp_all
  obtain ⟨rfl, rfl⟩ := trodVars_none hV
  obtain ⟨a0, rfl, rfl, rfl, w0⟩ := open_int Try.underlying5 (hval 0 5 v0 rfl rfl) h0
  obtain ⟨c0, rfl⟩ := int_u8 w0
  have k1 := h1
  obtain ⟨s1, A1, c1, rfl, hs1, ho1, hp1, hq1⟩ := open_u64s (hval 1 49 v1 rfl rfl) h1
  clear hA0
  simp only [List.append_nil] at hW'
  refine (walk c0 s1 A1 c1 W hs1 ho1 hp1 hq1).mono fun e W' ⟨he, hB⟩ => ?_
  subst he
  exact ⟨_, rfl, ⟨_, _, _, [], _, [], hW', trodAll_cons_mk (shut_bool Try.underlying4 _) trodAll_mk0, (trodAll_cons_mk (shut_int Try.underlying5 w0) (trodAll_cons_mk (Below.trod Try.laidOut (by kernel_rfl) (of_decide_eq_true (by kernel_rfl)) k1 hB (fun x hx => by simpa using hW'.lt x (by simp [hx]))) trodAll_mk0)), rfl, hB.frame _, fun h => by cases h⟩⟩

theorem holds : Rows.ScanFillsSaid :=
  OpenClaim.holds_of_wide 12 Try.f12 rfl rfl rfl rfl rfl rfl rfl ⟨rfl, rfl, rfl, rfl, rfl⟩ rfl rfl rfl rfl rfl (by kernel_rfl) Try.func12 (by kernel_rfl)
    (of_decide_eq_true (by kernel_rfl)) (by unfold Func.isWrapper; first | (rw [if_pos (by decide +kernel)]; kernel_rfl) | (rw [if_neg (by decide +kernel)]; exact ⟨rfl, rfl⟩))
    (fun os started H enc _ => lifted os started H enc)
end Go.Proofs.Ytoemjfjmpmngead.ScanFills

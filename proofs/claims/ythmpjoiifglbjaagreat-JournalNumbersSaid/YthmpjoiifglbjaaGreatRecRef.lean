/- The reference's functions of layer 7: contracts only. -/
import Derived.Test.YthmpjoiifglbjaaGreatCrcRef
import Derived.Test.YthmpjoiifglbjaaGreatFlash
import Derived.Test.YthmpjoiifglbjaaGreatBs
import Derived.Deep.RegionHeld3
namespace Go.Proofs.YthmpjoiifglbjaaGreat
open Go.RowKit
set_option linter.unusedVariables false
set_option linter.unusedSimpArgs false

theorem ref06PutN (n : Nat) (hn : n < 18446744073709551616) (w : Int) (W : World) : Calls Tryz.prog 96 #[.int .u64 (n : Int), .int .i64 w] W fun e W' => e = .returned (.string (putB n w)) ∧ Below W.heap.size W W' := by
  have h := ref06Put (BitVec.ofNat 64 n) w W
  rwa [BitVec.toNat_ofNat, Nat.mod_eq_of_lt hn] at h

set_option maxRecDepth 100000 in
theorem ref07Mark (W : World) : Calls Tryz.prog 71 #[] W fun e W' => e = .returned (.string (bs markL)) ∧ Below W.heap.size W W' := by
  have hc := lit_string (P := Tryz.prog) (src := 108) (dst := 9) Tryz.underlying108 Tryz.underlying5 Tryz.underlying9 W [90, 60] 2 #[.int .u8 90, .int .u8 60] rfl
  rw [show ([90, 60] : List UInt8).length = 2 from rfl] at hc
  go_enter Tryz.func71, Tryz.ntmps71
  go_wp2
  go_ret
  exact ⟨rfl, (Below.refl _ _).alloc (Nat.le_refl _) _⟩

set_option maxRecDepth 100000 in
theorem ref07low (n : Nat) (hn : n < 4294967296) (W : World) : Calls Tryz.prog 97 #[.int .u32 (n : Int)] W fun e W' => e = .returned (.string (bs (low4 n))) ∧ Below W.heap.size W W' := by
  have hcs : (#[.int .u8 ((n : Int) % 256), .int .u8 ((n : Int) / 256 % 256), .int .u8 ((n : Int) / 65536 % 256), .int .u8 ((n : Int) / 16777216)] : Array Value) = ((low4 n).map b8v).toArray := by
    have h1 : ((UInt8.ofNat n).toNat : Int) = (n : Int) % 256 := by rw [UInt8.toNat_ofNat']; omega
    have h2 : ((UInt8.ofNat (n / 256)).toNat : Int) = (n : Int) / 256 % 256 := by rw [UInt8.toNat_ofNat']; omega
    have h3 : ((UInt8.ofNat (n / 65536)).toNat : Int) = (n : Int) / 65536 % 256 := by rw [UInt8.toNat_ofNat']; omega
    have h4 : ((UInt8.ofNat (n / 16777216)).toNat : Int) = (n : Int) / 16777216 := by rw [UInt8.toNat_ofNat']; omega
    simp only [low4, List.map_cons, List.map_nil, b8v, h1, h2, h3, h4]
  have hc := lit_string (P := Tryz.prog) (src := 108) (dst := 9) Tryz.underlying108 Tryz.underlying5 Tryz.underlying9 W (low4 n) 4 _ hcs
  rw [low4_length] at hc
  clear hcs
  go_enter Tryz.func97, Tryz.ntmps97
  go_wp2
  go_ret
  exact ⟨rfl, (Below.refl _ _).alloc (Nat.le_refl _) _⟩

set_option maxRecDepth 100000 in
set_option maxHeartbeats 4000000 in
theorem ref07Body (r : Rec) (W : World) (hr : r.ok) : Calls Tryz.prog 69 #[.agg #[.int .i64 r.kind, .int .u64 (r.seq : Int), .int .u64 (r.data : Int)]] W fun e W' => e = .returned (.string (bs (bodyL r))) ∧ Below W.heap.size W W' := by
  have hs := hr.ns
  have hd := hr.nd
  have HCV := Lib.hid (fun (V : World) (g : Nat) (x : Box 5 V g [.int .u8 165, .int .u8 (IntKind.u8.wrap r.kind)]) => (show (convert 108 9 (.slice (some ⟨g, 0, none⟩) 2 2)).run Tryz.prog V = .ok (.string (bs [165, low8 r.kind])) V from by
    have hlow : ((low8 r.kind).toNat : Int) = IntKind.u8.wrap r.kind := by unfold low8; rw [UInt8.toNat_ofNat']; simp [IntKind.wrap, IntKind.signed, IntKind.bits]; omega
    have hb : BRow V g [165, low8 r.kind] := ⟨x.lt, fun j hj => by
      refine ⟨?_, x.frozen j⟩
      match j, hj with
      | 0, _ => exact x.cell 0 rfl
      | 1, _ => rw [x.cell 1 rfl]; simp only [gd, b8v]; rw [← hlow]; rfl⟩
    exact hb.string Tryz.underlying108 Tryz.underlying5 Tryz.underlying9 2))
  have z0 : (bs [165, low8 r.kind]).size = 2 := rfl
  have z1 : (putB r.seq 8).size = 8 := putB_size _ _
  have z2 : (putB r.data 8).size = 8 := putB_size _ _
  have c1 : ¬ 9223372036854775807 < (bs [165, low8 r.kind]).size + (putB r.seq 8).size := by omega
  have c2 : ¬ 9223372036854775807 < (bs [165, low8 r.kind]).size + (putB r.seq 8).size + (putB r.data 8).size := by omega
  have c3 : ¬ 9223372036854775807 < (bs [165, low8 r.kind]).size + (putB r.seq 8).size + (putB r.data 8).size + (bs (low4 (sumN (headL r)))).size := by rw [bs_size (low4 _), low4_length]; omega
  have hbl : bl (bs [165, low8 r.kind] ++ putB r.seq 8 ++ putB r.data 8) = headL r := by rw [bl_append, bl_append, bl_bs, bl_putB, bl_putB, List.append_assoc]; rfl
  have TS := Lib.hid (fun (V : World) => (show Calls Tryz.prog 98 #[.string (bs [165, low8 r.kind] ++ putB r.seq 8 ++ putB r.data 8)] V fun e W' => e = .returned (.int .u32 ((sumN (headL r) : Nat) : Int)) ∧ W' = V from by
    have h := refSum (bs [165, low8 r.kind] ++ putB r.seq 8 ++ putB r.data 8) V (by rw [ByteArray.size_append, ByteArray.size_append]; unfold maxLen; omega)
    rwa [show sumT (bs [165, low8 r.kind] ++ putB r.seq 8 ++ putB r.data 8) = ((sumN (headL r) : Nat) : Int) from by unfold sumT; rw [hbl]; rfl] at h))
  have HF := Lib.hid (show (bs [165, low8 r.kind] ++ putB r.seq 8 ++ putB r.data 8) ++ bs (low4 (sumN (headL r))) = bs (bodyL r) from bl_inj (by rw [bl_append, hbl, bl_bs, bl_bs]; rfl))
  clear hbl z0 z1 z2
  have hB : Below W.heap.size W (W.alloc (.cells #[.int .i64 r.kind, .int .u64 (r.seq : Int), .int .u64 (r.data : Int)] 87)) := (Below.refl _ _).alloc (Nat.le_refl _) _
  have xr := Box.new 87 W [.int .i64 r.kind, .int .u64 (r.seq : Int), .int .u64 (r.data : Int)]
  go_enter Tryz.func69, Tryz.ntmps69
  go_wp2_with fail
  generalize W.alloc (.cells #[.int .i64 r.kind, .int .u64 (r.seq : Int), .int .u64 (r.data : Int)] 87) = V at *
  replace hB := hB.drew
  replace xr := xr.drew
  refine wp_region_held_drew (S := fun w' => w'.cell? ⟨W.heap.size, 0, none⟩ = some (.int .i64 r.kind) ∧ w'.cell? ⟨W.heap.size, 1, none⟩ = some (.int .u64 (r.seq : Int)) ∧ w'.cell? ⟨W.heap.size, 2, none⟩ = some (.int .u64 (r.data : Int))) (by kernel_rfl) ?_ (fun hHeld => ?_)
  · exact ⟨xr.cell 0 rfl, xr.cell 1 rfl, xr.cell 2 rfl⟩
  generalize V.drew = Vd at *
  refine wpAnyH_take (i := 0) (v := ?_) rfl (by kernel_rfl) (by kernel_rfl) (by kernel_rfl) (fun _ _ _ h => h) (Or.inl ⟨by rfl, ?_⟩) (by assumption) ?_
  rotate_left
  · intro w hSw; (try dsimp only at hSw); go_simp; try with_reducible rfl
  try simp only [Act.put, List.getElem_toArray, List.getElem_cons_zero, List.getElem_cons_succ, List.setIfInBounds_toArray, List.set_cons_zero, List.set_cons_succ]
  refine wpAnyH_take (i := 1) (v := ?_) rfl (by kernel_rfl) (by kernel_rfl) (by kernel_rfl) (fun _ _ _ h => h) (Or.inl ⟨by rfl, ?_⟩) (by assumption) ?_
  rotate_left
  · intro w hSw; (try dsimp only at hSw); go_simp; try with_reducible rfl
  try simp only [Act.put, List.getElem_toArray, List.getElem_cons_zero, List.getElem_cons_succ, List.setIfInBounds_toArray, List.set_cons_zero, List.set_cons_succ]
  refine wpAnyH_take (i := 2) (v := ?_) rfl (by kernel_rfl) (by kernel_rfl) (by kernel_rfl) (fun _ _ _ h => h) (Or.inl ⟨by rfl, ?_⟩) (by assumption) ?_
  rotate_left
  · intro w hSw; (try dsimp only at hSw); go_simp; try with_reducible rfl
  try simp only [Act.put, List.getElem_toArray, List.getElem_cons_zero, List.getElem_cons_succ, List.setIfInBounds_toArray, List.set_cons_zero, List.set_cons_succ]
  refine wpAnyH_take (i := 5) (v := ?_) rfl (by kernel_rfl) (by kernel_rfl) (by kernel_rfl) (fun _ _ _ h => h) (Or.inl ⟨by rfl, ?_⟩) (by assumption) ?_
  rotate_left
  · intro w hSw; (try dsimp only at hSw); go_simp; try with_reducible rfl
  try simp only [Act.put, List.getElem_toArray, List.getElem_cons_zero, List.getElem_cons_succ, List.setIfInBounds_toArray, List.set_cons_zero, List.set_cons_succ]
  refine wpAnyH_take (i := 6) (v := ?_) rfl (by kernel_rfl) (by kernel_rfl) (by kernel_rfl) (fun _ _ _ h => h) (Or.inl ⟨by rfl, ?_⟩) (by assumption) ?_
  rotate_left
  · intro w hSw; (try dsimp only at hSw); go_simp; try with_reducible rfl
  try simp only [Act.put, List.getElem_toArray, List.getElem_cons_zero, List.getElem_cons_succ, List.setIfInBounds_toArray, List.set_cons_zero, List.set_cons_succ]
  refine wpAnyH_take (i := 9) (v := ?_) rfl (by kernel_rfl) (by kernel_rfl) (by kernel_rfl) (fun _ _ _ h => h) (Or.inl ⟨by rfl, ?_⟩) (by assumption) ?_
  rotate_left
  · intro w hSw; (try dsimp only at hSw); go_simp; try with_reducible rfl
  try simp only [Act.put, List.getElem_toArray, List.getElem_cons_zero, List.getElem_cons_succ, List.setIfInBounds_toArray, List.set_cons_zero, List.set_cons_succ]
  refine wpAnyH_take (i := 10) (v := ?_) rfl (by kernel_rfl) (by kernel_rfl) (by kernel_rfl) (fun _ _ _ h => h) (Or.inl ⟨by rfl, ?_⟩) (by assumption) ?_
  rotate_left
  · intro w hSw; (try dsimp only at hSw); go_simp; try with_reducible rfl
  try simp only [Act.put, List.getElem_toArray, List.getElem_cons_zero, List.getElem_cons_succ, List.setIfInBounds_toArray, List.set_cons_zero, List.set_cons_succ]
  refine wpAnyH_ready (rs := [3, 7]) (by kernel_rfl) (by simp) ?_
  refine AllReadyH.cons rfl (fun K hK => ?_) (AllReadyH.cons rfl (fun K hK => ?_) (AllReadyH.nil))
  · go_simp
    have xs := Box.new 5 Vd [.int .u8 165, .int .u8 (IntKind.u8.wrap r.kind)]
    replace xr := xr.alloc (.cells #[.int .u8 165, .int .u8 (IntKind.u8.wrap r.kind)] 5)
    replace hB := hB.alloc hB.size (.cells #[.int .u8 165, .int .u8 (IntKind.u8.wrap r.kind)] 5)
    generalize Vd.alloc (.cells #[.int .u8 165, .int .u8 (IntKind.u8.wrap r.kind)] 5) = V0_3 at *
    generalize Vd.heap.size = g at *
    clear hHeld
    refine hK.out _ _ ?_ (fun hHeld => ?_)
    · exact ⟨xr.cell 0 rfl, xr.cell 1 rfl, xr.cell 2 rfl⟩
    clear hK K
    try simp only [Act.put, List.getElem_toArray, List.getElem_cons_zero, List.getElem_cons_succ, List.setIfInBounds_toArray, List.set_cons_zero, List.set_cons_succ]
    refine wpAnyH_ready (rs := [4, 7]) (by kernel_rfl) (by simp) ?_
    refine AllReadyH.cons rfl (fun K hK => ?_) (AllReadyH.cons rfl (fun K hK => ?_) (AllReadyH.nil))
    · have hcv := HCV.out V0_3 _ xs
      go_simp
      clear hcv
      obtain ⟨V1_4, rfl⟩ : ∃ x : World, x = V0_3 := ⟨_, rfl⟩
      clear hHeld
      refine hK.out _ _ ?_ (fun hHeld => ?_)
      · exact ⟨xr.cell 0 rfl, xr.cell 1 rfl, xr.cell 2 rfl⟩
      clear hK K
      try simp only [Act.put, List.getElem_toArray, List.getElem_cons_zero, List.getElem_cons_succ, List.setIfInBounds_toArray, List.set_cons_zero, List.set_cons_succ]
      refine wpAnyH_ready (rs := [7]) (by kernel_rfl) (by simp) ?_
      refine AllReadyH.cons rfl (fun K hK => ?_) (AllReadyH.nil)
      go_simp
      refine (ref06PutN _ hs _ _).mono ?_
      rintro e V2_7 ⟨rfl, hh⟩
      replace hB := below_seq hB hh
      replace xr := xr.seq hh
      try replace xs := xs.seq hh
      clear hh
      clear hHeld
      refine hK.out _ _ ?_ (fun hHeld => ?_)
      · exact ⟨xr.cell 0 rfl, xr.cell 1 rfl, xr.cell 2 rfl⟩
      clear hK K
      try simp only [Act.put, List.getElem_toArray, List.getElem_cons_zero, List.getElem_cons_succ, List.setIfInBounds_toArray, List.set_cons_zero, List.set_cons_succ]
      refine wpAnyH_take (i := 8) (v := ?_) rfl (by kernel_rfl) (by kernel_rfl) (by kernel_rfl) (fun _ _ _ h => h) (Or.inl ⟨by rfl, ?_⟩) (by assumption) ?_
      rotate_left
      · intro w hSw; (try dsimp only at hSw); go_simp; try with_reducible rfl
      try simp only [Act.put, List.getElem_toArray, List.getElem_cons_zero, List.getElem_cons_succ, List.setIfInBounds_toArray, List.set_cons_zero, List.set_cons_succ]
      refine wpAnyH_ready (rs := [11]) (by kernel_rfl) (by simp) ?_
      refine AllReadyH.cons rfl (fun K hK => ?_) (AllReadyH.nil)
      go_simp
      refine (ref06PutN _ hd _ _).mono ?_
      rintro e V3_11 ⟨rfl, hh⟩
      replace hB := below_seq hB hh
      replace xr := xr.seq hh
      try replace xs := xs.seq hh
      clear hh
      clear hHeld
      refine hK.out _ _ ?_ (fun hHeld => ?_)
      · exact ⟨xr.cell 0 rfl, xr.cell 1 rfl, xr.cell 2 rfl⟩
      clear hK K
      try simp only [Act.put, List.getElem_toArray, List.getElem_cons_zero, List.getElem_cons_succ, List.setIfInBounds_toArray, List.set_cons_zero, List.set_cons_succ]
      refine wpAnyH_take (i := 12) (v := ?_) rfl (by kernel_rfl) (by kernel_rfl) (by kernel_rfl) (fun _ _ _ h => h) (Or.inl ⟨by rfl, ?_⟩) (by assumption) ?_
      rotate_left
      · intro w hSw; (try dsimp only at hSw); go_simp; try with_reducible rfl
      try simp only [Act.put, List.getElem_toArray, List.getElem_cons_zero, List.getElem_cons_succ, List.setIfInBounds_toArray, List.set_cons_zero, List.set_cons_succ]
      refine wpAnyH_take (i := 13) (v := ?_) rfl (by kernel_rfl) (by kernel_rfl) (by kernel_rfl) (fun _ _ _ h => h) (Or.inl ⟨by rfl, ?_⟩) (by assumption) ?_
      rotate_left
      · intro w hSw; (try dsimp only at hSw); go_simp; try with_reducible rfl
      try simp only [Act.put, List.getElem_toArray, List.getElem_cons_zero, List.getElem_cons_succ, List.setIfInBounds_toArray, List.set_cons_zero, List.set_cons_succ]
      refine wpAnyH_done (by kernel_rfl) ?_ _
      clear hHeld
      go_wp2_with fail
      refine (TS.out _).mono ?_
      rintro e w' ⟨rfl, rfl⟩
      go_wp2_with fail
      refine (ref07low _ (sumN_lt _) _).mono ?_
      rintro e w' ⟨rfl, hh⟩
      replace hB := below_seq hB hh
      go_wp2
      go_ret
      exact ⟨by rw [HF.out]; rfl, hB⟩
    · go_simp
      refine (ref06PutN _ hs _ _).mono ?_
      rintro e V1_7 ⟨rfl, hh⟩
      replace hB := below_seq hB hh
      replace xr := xr.seq hh
      try replace xs := xs.seq hh
      clear hh
      clear hHeld
      refine hK.out _ _ ?_ (fun hHeld => ?_)
      · exact ⟨xr.cell 0 rfl, xr.cell 1 rfl, xr.cell 2 rfl⟩
      clear hK K
      try simp only [Act.put, List.getElem_toArray, List.getElem_cons_zero, List.getElem_cons_succ, List.setIfInBounds_toArray, List.set_cons_zero, List.set_cons_succ]
      refine wpAnyH_ready (rs := [4, 11]) (by kernel_rfl) (by simp) ?_
      refine AllReadyH.cons rfl (fun K hK => ?_) (AllReadyH.cons rfl (fun K hK => ?_) (AllReadyH.nil))
      · have hcv := HCV.out V1_7 _ xs
        go_simp
        clear hcv
        obtain ⟨V2_4, rfl⟩ : ∃ x : World, x = V1_7 := ⟨_, rfl⟩
        clear hHeld
        refine hK.out _ _ ?_ (fun hHeld => ?_)
        · exact ⟨xr.cell 0 rfl, xr.cell 1 rfl, xr.cell 2 rfl⟩
        clear hK K
        try simp only [Act.put, List.getElem_toArray, List.getElem_cons_zero, List.getElem_cons_succ, List.setIfInBounds_toArray, List.set_cons_zero, List.set_cons_succ]
        refine wpAnyH_take (i := 8) (v := ?_) rfl (by kernel_rfl) (by kernel_rfl) (by kernel_rfl) (fun _ _ _ h => h) (Or.inl ⟨by rfl, ?_⟩) (by assumption) ?_
        rotate_left
        · intro w hSw; (try dsimp only at hSw); go_simp; try with_reducible rfl
        try simp only [Act.put, List.getElem_toArray, List.getElem_cons_zero, List.getElem_cons_succ, List.setIfInBounds_toArray, List.set_cons_zero, List.set_cons_succ]
        refine wpAnyH_ready (rs := [11]) (by kernel_rfl) (by simp) ?_
        refine AllReadyH.cons rfl (fun K hK => ?_) (AllReadyH.nil)
        go_simp
        refine (ref06PutN _ hd _ _).mono ?_
        rintro e V3_11 ⟨rfl, hh⟩
        replace hB := below_seq hB hh
        replace xr := xr.seq hh
        try replace xs := xs.seq hh
        clear hh
        clear hHeld
        refine hK.out _ _ ?_ (fun hHeld => ?_)
        · exact ⟨xr.cell 0 rfl, xr.cell 1 rfl, xr.cell 2 rfl⟩
        clear hK K
        try simp only [Act.put, List.getElem_toArray, List.getElem_cons_zero, List.getElem_cons_succ, List.setIfInBounds_toArray, List.set_cons_zero, List.set_cons_succ]
        refine wpAnyH_take (i := 12) (v := ?_) rfl (by kernel_rfl) (by kernel_rfl) (by kernel_rfl) (fun _ _ _ h => h) (Or.inl ⟨by rfl, ?_⟩) (by assumption) ?_
        rotate_left
        · intro w hSw; (try dsimp only at hSw); go_simp; try with_reducible rfl
        try simp only [Act.put, List.getElem_toArray, List.getElem_cons_zero, List.getElem_cons_succ, List.setIfInBounds_toArray, List.set_cons_zero, List.set_cons_succ]
        refine wpAnyH_take (i := 13) (v := ?_) rfl (by kernel_rfl) (by kernel_rfl) (by kernel_rfl) (fun _ _ _ h => h) (Or.inl ⟨by rfl, ?_⟩) (by assumption) ?_
        rotate_left
        · intro w hSw; (try dsimp only at hSw); go_simp; try with_reducible rfl
        try simp only [Act.put, List.getElem_toArray, List.getElem_cons_zero, List.getElem_cons_succ, List.setIfInBounds_toArray, List.set_cons_zero, List.set_cons_succ]
        refine wpAnyH_done (by kernel_rfl) ?_ _
        clear hHeld
        go_wp2_with fail
        refine (TS.out _).mono ?_
        rintro e w' ⟨rfl, rfl⟩
        go_wp2_with fail
        refine (ref07low _ (sumN_lt _) _).mono ?_
        rintro e w' ⟨rfl, hh⟩
        replace hB := below_seq hB hh
        go_wp2
        go_ret
        exact ⟨by rw [HF.out]; rfl, hB⟩
      · go_simp
        refine (ref06PutN _ hd _ _).mono ?_
        rintro e V2_11 ⟨rfl, hh⟩
        replace hB := below_seq hB hh
        replace xr := xr.seq hh
        try replace xs := xs.seq hh
        clear hh
        clear hHeld
        refine hK.out _ _ ?_ (fun hHeld => ?_)
        · exact ⟨xr.cell 0 rfl, xr.cell 1 rfl, xr.cell 2 rfl⟩
        clear hK K
        try simp only [Act.put, List.getElem_toArray, List.getElem_cons_zero, List.getElem_cons_succ, List.setIfInBounds_toArray, List.set_cons_zero, List.set_cons_succ]
        refine wpAnyH_ready (rs := [4]) (by kernel_rfl) (by simp) ?_
        refine AllReadyH.cons rfl (fun K hK => ?_) (AllReadyH.nil)
        have hcv := HCV.out V2_11 _ xs
        go_simp
        clear hcv
        obtain ⟨V3_4, rfl⟩ : ∃ x : World, x = V2_11 := ⟨_, rfl⟩
        clear hHeld
        refine hK.out _ _ ?_ (fun hHeld => ?_)
        · exact ⟨xr.cell 0 rfl, xr.cell 1 rfl, xr.cell 2 rfl⟩
        clear hK K
        try simp only [Act.put, List.getElem_toArray, List.getElem_cons_zero, List.getElem_cons_succ, List.setIfInBounds_toArray, List.set_cons_zero, List.set_cons_succ]
        refine wpAnyH_take (i := 8) (v := ?_) rfl (by kernel_rfl) (by kernel_rfl) (by kernel_rfl) (fun _ _ _ h => h) (Or.inl ⟨by rfl, ?_⟩) (by assumption) ?_
        rotate_left
        · intro w hSw; (try dsimp only at hSw); go_simp; try with_reducible rfl
        try simp only [Act.put, List.getElem_toArray, List.getElem_cons_zero, List.getElem_cons_succ, List.setIfInBounds_toArray, List.set_cons_zero, List.set_cons_succ]
        refine wpAnyH_take (i := 12) (v := ?_) rfl (by kernel_rfl) (by kernel_rfl) (by kernel_rfl) (fun _ _ _ h => h) (Or.inl ⟨by rfl, ?_⟩) (by assumption) ?_
        rotate_left
        · intro w hSw; (try dsimp only at hSw); go_simp; try with_reducible rfl
        try simp only [Act.put, List.getElem_toArray, List.getElem_cons_zero, List.getElem_cons_succ, List.setIfInBounds_toArray, List.set_cons_zero, List.set_cons_succ]
        refine wpAnyH_take (i := 13) (v := ?_) rfl (by kernel_rfl) (by kernel_rfl) (by kernel_rfl) (fun _ _ _ h => h) (Or.inl ⟨by rfl, ?_⟩) (by assumption) ?_
        rotate_left
        · intro w hSw; (try dsimp only at hSw); go_simp; try with_reducible rfl
        try simp only [Act.put, List.getElem_toArray, List.getElem_cons_zero, List.getElem_cons_succ, List.setIfInBounds_toArray, List.set_cons_zero, List.set_cons_succ]
        refine wpAnyH_done (by kernel_rfl) ?_ _
        clear hHeld
        go_wp2_with fail
        refine (TS.out _).mono ?_
        rintro e w' ⟨rfl, rfl⟩
        go_wp2_with fail
        refine (ref07low _ (sumN_lt _) _).mono ?_
        rintro e w' ⟨rfl, hh⟩
        replace hB := below_seq hB hh
        go_wp2
        go_ret
        exact ⟨by rw [HF.out]; rfl, hB⟩
  · go_simp
    refine (ref06PutN _ hs _ _).mono ?_
    rintro e V0_7 ⟨rfl, hh⟩
    replace hB := below_seq hB hh
    replace xr := xr.seq hh
    try replace xs := xs.seq hh
    clear hh
    clear hHeld
    refine hK.out _ _ ?_ (fun hHeld => ?_)
    · exact ⟨xr.cell 0 rfl, xr.cell 1 rfl, xr.cell 2 rfl⟩
    clear hK K
    try simp only [Act.put, List.getElem_toArray, List.getElem_cons_zero, List.getElem_cons_succ, List.setIfInBounds_toArray, List.set_cons_zero, List.set_cons_succ]
    refine wpAnyH_ready (rs := [3, 11]) (by kernel_rfl) (by simp) ?_
    refine AllReadyH.cons rfl (fun K hK => ?_) (AllReadyH.cons rfl (fun K hK => ?_) (AllReadyH.nil))
    · go_simp
      have xs := Box.new 5 V0_7 [.int .u8 165, .int .u8 (IntKind.u8.wrap r.kind)]
      replace xr := xr.alloc (.cells #[.int .u8 165, .int .u8 (IntKind.u8.wrap r.kind)] 5)
      replace hB := hB.alloc hB.size (.cells #[.int .u8 165, .int .u8 (IntKind.u8.wrap r.kind)] 5)
      generalize V0_7.alloc (.cells #[.int .u8 165, .int .u8 (IntKind.u8.wrap r.kind)] 5) = V1_3 at *
      generalize V0_7.heap.size = g at *
      clear hHeld
      refine hK.out _ _ ?_ (fun hHeld => ?_)
      · exact ⟨xr.cell 0 rfl, xr.cell 1 rfl, xr.cell 2 rfl⟩
      clear hK K
      try simp only [Act.put, List.getElem_toArray, List.getElem_cons_zero, List.getElem_cons_succ, List.setIfInBounds_toArray, List.set_cons_zero, List.set_cons_succ]
      refine wpAnyH_ready (rs := [4, 11]) (by kernel_rfl) (by simp) ?_
      refine AllReadyH.cons rfl (fun K hK => ?_) (AllReadyH.cons rfl (fun K hK => ?_) (AllReadyH.nil))
      · have hcv := HCV.out V1_3 _ xs
        go_simp
        clear hcv
        obtain ⟨V2_4, rfl⟩ : ∃ x : World, x = V1_3 := ⟨_, rfl⟩
        clear hHeld
        refine hK.out _ _ ?_ (fun hHeld => ?_)
        · exact ⟨xr.cell 0 rfl, xr.cell 1 rfl, xr.cell 2 rfl⟩
        clear hK K
        try simp only [Act.put, List.getElem_toArray, List.getElem_cons_zero, List.getElem_cons_succ, List.setIfInBounds_toArray, List.set_cons_zero, List.set_cons_succ]
        refine wpAnyH_take (i := 8) (v := ?_) rfl (by kernel_rfl) (by kernel_rfl) (by kernel_rfl) (fun _ _ _ h => h) (Or.inl ⟨by rfl, ?_⟩) (by assumption) ?_
        rotate_left
        · intro w hSw; (try dsimp only at hSw); go_simp; try with_reducible rfl
        try simp only [Act.put, List.getElem_toArray, List.getElem_cons_zero, List.getElem_cons_succ, List.setIfInBounds_toArray, List.set_cons_zero, List.set_cons_succ]
        refine wpAnyH_ready (rs := [11]) (by kernel_rfl) (by simp) ?_
        refine AllReadyH.cons rfl (fun K hK => ?_) (AllReadyH.nil)
        go_simp
        refine (ref06PutN _ hd _ _).mono ?_
        rintro e V3_11 ⟨rfl, hh⟩
        replace hB := below_seq hB hh
        replace xr := xr.seq hh
        try replace xs := xs.seq hh
        clear hh
        clear hHeld
        refine hK.out _ _ ?_ (fun hHeld => ?_)
        · exact ⟨xr.cell 0 rfl, xr.cell 1 rfl, xr.cell 2 rfl⟩
        clear hK K
        try simp only [Act.put, List.getElem_toArray, List.getElem_cons_zero, List.getElem_cons_succ, List.setIfInBounds_toArray, List.set_cons_zero, List.set_cons_succ]
        refine wpAnyH_take (i := 12) (v := ?_) rfl (by kernel_rfl) (by kernel_rfl) (by kernel_rfl) (fun _ _ _ h => h) (Or.inl ⟨by rfl, ?_⟩) (by assumption) ?_
        rotate_left
        · intro w hSw; (try dsimp only at hSw); go_simp; try with_reducible rfl
        try simp only [Act.put, List.getElem_toArray, List.getElem_cons_zero, List.getElem_cons_succ, List.setIfInBounds_toArray, List.set_cons_zero, List.set_cons_succ]
        refine wpAnyH_take (i := 13) (v := ?_) rfl (by kernel_rfl) (by kernel_rfl) (by kernel_rfl) (fun _ _ _ h => h) (Or.inl ⟨by rfl, ?_⟩) (by assumption) ?_
        rotate_left
        · intro w hSw; (try dsimp only at hSw); go_simp; try with_reducible rfl
        try simp only [Act.put, List.getElem_toArray, List.getElem_cons_zero, List.getElem_cons_succ, List.setIfInBounds_toArray, List.set_cons_zero, List.set_cons_succ]
        refine wpAnyH_done (by kernel_rfl) ?_ _
        clear hHeld
        go_wp2_with fail
        refine (TS.out _).mono ?_
        rintro e w' ⟨rfl, rfl⟩
        go_wp2_with fail
        refine (ref07low _ (sumN_lt _) _).mono ?_
        rintro e w' ⟨rfl, hh⟩
        replace hB := below_seq hB hh
        go_wp2
        go_ret
        exact ⟨by rw [HF.out]; rfl, hB⟩
      · go_simp
        refine (ref06PutN _ hd _ _).mono ?_
        rintro e V2_11 ⟨rfl, hh⟩
        replace hB := below_seq hB hh
        replace xr := xr.seq hh
        try replace xs := xs.seq hh
        clear hh
        clear hHeld
        refine hK.out _ _ ?_ (fun hHeld => ?_)
        · exact ⟨xr.cell 0 rfl, xr.cell 1 rfl, xr.cell 2 rfl⟩
        clear hK K
        try simp only [Act.put, List.getElem_toArray, List.getElem_cons_zero, List.getElem_cons_succ, List.setIfInBounds_toArray, List.set_cons_zero, List.set_cons_succ]
        refine wpAnyH_ready (rs := [4]) (by kernel_rfl) (by simp) ?_
        refine AllReadyH.cons rfl (fun K hK => ?_) (AllReadyH.nil)
        have hcv := HCV.out V2_11 _ xs
        go_simp
        clear hcv
        obtain ⟨V3_4, rfl⟩ : ∃ x : World, x = V2_11 := ⟨_, rfl⟩
        clear hHeld
        refine hK.out _ _ ?_ (fun hHeld => ?_)
        · exact ⟨xr.cell 0 rfl, xr.cell 1 rfl, xr.cell 2 rfl⟩
        clear hK K
        try simp only [Act.put, List.getElem_toArray, List.getElem_cons_zero, List.getElem_cons_succ, List.setIfInBounds_toArray, List.set_cons_zero, List.set_cons_succ]
        refine wpAnyH_take (i := 8) (v := ?_) rfl (by kernel_rfl) (by kernel_rfl) (by kernel_rfl) (fun _ _ _ h => h) (Or.inl ⟨by rfl, ?_⟩) (by assumption) ?_
        rotate_left
        · intro w hSw; (try dsimp only at hSw); go_simp; try with_reducible rfl
        try simp only [Act.put, List.getElem_toArray, List.getElem_cons_zero, List.getElem_cons_succ, List.setIfInBounds_toArray, List.set_cons_zero, List.set_cons_succ]
        refine wpAnyH_take (i := 12) (v := ?_) rfl (by kernel_rfl) (by kernel_rfl) (by kernel_rfl) (fun _ _ _ h => h) (Or.inl ⟨by rfl, ?_⟩) (by assumption) ?_
        rotate_left
        · intro w hSw; (try dsimp only at hSw); go_simp; try with_reducible rfl
        try simp only [Act.put, List.getElem_toArray, List.getElem_cons_zero, List.getElem_cons_succ, List.setIfInBounds_toArray, List.set_cons_zero, List.set_cons_succ]
        refine wpAnyH_take (i := 13) (v := ?_) rfl (by kernel_rfl) (by kernel_rfl) (by kernel_rfl) (fun _ _ _ h => h) (Or.inl ⟨by rfl, ?_⟩) (by assumption) ?_
        rotate_left
        · intro w hSw; (try dsimp only at hSw); go_simp; try with_reducible rfl
        try simp only [Act.put, List.getElem_toArray, List.getElem_cons_zero, List.getElem_cons_succ, List.setIfInBounds_toArray, List.set_cons_zero, List.set_cons_succ]
        refine wpAnyH_done (by kernel_rfl) ?_ _
        clear hHeld
        go_wp2_with fail
        refine (TS.out _).mono ?_
        rintro e w' ⟨rfl, rfl⟩
        go_wp2_with fail
        refine (ref07low _ (sumN_lt _) _).mono ?_
        rintro e w' ⟨rfl, hh⟩
        replace hB := below_seq hB hh
        go_wp2
        go_ret
        exact ⟨by rw [HF.out]; rfl, hB⟩
    · go_simp
      refine (ref06PutN _ hd _ _).mono ?_
      rintro e V1_11 ⟨rfl, hh⟩
      replace hB := below_seq hB hh
      replace xr := xr.seq hh
      try replace xs := xs.seq hh
      clear hh
      clear hHeld
      refine hK.out _ _ ?_ (fun hHeld => ?_)
      · exact ⟨xr.cell 0 rfl, xr.cell 1 rfl, xr.cell 2 rfl⟩
      clear hK K
      try simp only [Act.put, List.getElem_toArray, List.getElem_cons_zero, List.getElem_cons_succ, List.setIfInBounds_toArray, List.set_cons_zero, List.set_cons_succ]
      refine wpAnyH_ready (rs := [3]) (by kernel_rfl) (by simp) ?_
      refine AllReadyH.cons rfl (fun K hK => ?_) (AllReadyH.nil)
      go_simp
      have xs := Box.new 5 V1_11 [.int .u8 165, .int .u8 (IntKind.u8.wrap r.kind)]
      replace xr := xr.alloc (.cells #[.int .u8 165, .int .u8 (IntKind.u8.wrap r.kind)] 5)
      replace hB := hB.alloc hB.size (.cells #[.int .u8 165, .int .u8 (IntKind.u8.wrap r.kind)] 5)
      generalize V1_11.alloc (.cells #[.int .u8 165, .int .u8 (IntKind.u8.wrap r.kind)] 5) = V2_3 at *
      generalize V1_11.heap.size = g at *
      clear hHeld
      refine hK.out _ _ ?_ (fun hHeld => ?_)
      · exact ⟨xr.cell 0 rfl, xr.cell 1 rfl, xr.cell 2 rfl⟩
      clear hK K
      try simp only [Act.put, List.getElem_toArray, List.getElem_cons_zero, List.getElem_cons_succ, List.setIfInBounds_toArray, List.set_cons_zero, List.set_cons_succ]
      refine wpAnyH_ready (rs := [4]) (by kernel_rfl) (by simp) ?_
      refine AllReadyH.cons rfl (fun K hK => ?_) (AllReadyH.nil)
      have hcv := HCV.out V2_3 _ xs
      go_simp
      clear hcv
      obtain ⟨V3_4, rfl⟩ : ∃ x : World, x = V2_3 := ⟨_, rfl⟩
      clear hHeld
      refine hK.out _ _ ?_ (fun hHeld => ?_)
      · exact ⟨xr.cell 0 rfl, xr.cell 1 rfl, xr.cell 2 rfl⟩
      clear hK K
      try simp only [Act.put, List.getElem_toArray, List.getElem_cons_zero, List.getElem_cons_succ, List.setIfInBounds_toArray, List.set_cons_zero, List.set_cons_succ]
      refine wpAnyH_take (i := 8) (v := ?_) rfl (by kernel_rfl) (by kernel_rfl) (by kernel_rfl) (fun _ _ _ h => h) (Or.inl ⟨by rfl, ?_⟩) (by assumption) ?_
      rotate_left
      · intro w hSw; (try dsimp only at hSw); go_simp; try with_reducible rfl
      try simp only [Act.put, List.getElem_toArray, List.getElem_cons_zero, List.getElem_cons_succ, List.setIfInBounds_toArray, List.set_cons_zero, List.set_cons_succ]
      refine wpAnyH_take (i := 12) (v := ?_) rfl (by kernel_rfl) (by kernel_rfl) (by kernel_rfl) (fun _ _ _ h => h) (Or.inl ⟨by rfl, ?_⟩) (by assumption) ?_
      rotate_left
      · intro w hSw; (try dsimp only at hSw); go_simp; try with_reducible rfl
      try simp only [Act.put, List.getElem_toArray, List.getElem_cons_zero, List.getElem_cons_succ, List.setIfInBounds_toArray, List.set_cons_zero, List.set_cons_succ]
      refine wpAnyH_take (i := 13) (v := ?_) rfl (by kernel_rfl) (by kernel_rfl) (by kernel_rfl) (fun _ _ _ h => h) (Or.inl ⟨by rfl, ?_⟩) (by assumption) ?_
      rotate_left
      · intro w hSw; (try dsimp only at hSw); go_simp; try with_reducible rfl
      try simp only [Act.put, List.getElem_toArray, List.getElem_cons_zero, List.getElem_cons_succ, List.setIfInBounds_toArray, List.set_cons_zero, List.set_cons_succ]
      refine wpAnyH_done (by kernel_rfl) ?_ _
      clear hHeld
      go_wp2_with fail
      refine (TS.out _).mono ?_
      rintro e w' ⟨rfl, rfl⟩
      go_wp2_with fail
      refine (ref07low _ (sumN_lt _) _).mono ?_
      rintro e w' ⟨rfl, hh⟩
      replace hB := below_seq hB hh
      go_wp2
      go_ret
      exact ⟨by rw [HF.out]; rfl, hB⟩

end Go.Proofs.YthmpjoiifglbjaaGreat

/- The document's own answers of layer 14: contracts only (Pack). -/
import Derived.Test.YtkdadjojahfmeaaRows
import Derived.Test.YtkdadjojahfmeaaStateRef
import Derived.Test.YtkdadjojahfmeaaFieldRef
import Derived.Test.YtkdadjojahfmeaaBs
import Derived.WalkKit
import Derived.ProofKit
import Derived.Lib.Hide
import Derived.OwnWalk
import Derived.Deep.RegionHeld3
import Derived.WalkLawsBesides
namespace Go.Proofs.Ytkdadjojahfmeaa
open Go.RowKit
set_option linter.unusedVariables false
set_option linter.unusedSimpArgs false

theorem ref06PutN3 (n : Nat) (hn : n < 18446744073709551616) (w : Int) (W : World) : Calls Try.prog 21 #[.int .u64 (n : Int), .int .i64 w] W fun e W' => e = .returned (.string (putB n w)) ∧ Below W.heap.size W W' := by
  have h := ref06Put (BitVec.ofNat 64 n) w W
  rwa [BitVec.toNat_ofNat, Nat.mod_eq_of_lt hn] at h
theorem u64_wrapI (x : Int) : IntKind.u64.wrap x = x % 18446744073709551616 := by simp [IntKind.wrap, IntKind.signed, IntKind.bits]
def packT (f i : UInt8) (a o : Int) : ByteArray := bs [f, i] ++ putB (u64N a) 3 ++ putB (u64N o) 3
theorem packT_size (f i : UInt8) (a o : Int) : (packT f i a o).size = 8 := by
  unfold packT; rw [ByteArray.size_append, ByteArray.size_append, putB_size, putB_size, bs_size]; rfl
theorem packT_get (f i : UInt8) (a o : Int) : getB (packT f i a o) = f.toNat * 72057594037927936 + i.toNat * 281474976710656 + low24 a * 16777216 + low24 o := by
  have hf := f.toNat_lt
  have hi := i.toNat_lt
  have h1 : ∀ v : Int, u64N v % 256 ^ 3 = low24 v := fun v => by unfold u64N low24; omega
  have h2 := low_lt a
  have h3 := low_lt o
  unfold getB packT
  rw [bl_append, bl_append, bl_bs, bl_putB, bl_putB, show clampW 3 = 3 from rfl, getN_append, getN_append, getN_putL, getN_putL, h1, h1]
  simp only [putL_length]
  have h4 : getN [f, i] = 256 * f.toNat + i.toNat := by simp [getN]
  rw [h4, show (256 : Nat) ^ 3 = 16777216 from rfl]
  omega

set_option maxRecDepth 100000 in
set_option maxHeartbeats 4000000 in
theorem ref14PackNot (s : St) (W : World) (h : legalB s = false) : Gives Try.prog 14 #[.agg #[.int .i64 s.mode, .bool s.armed, .bool s.home, .int .i64 s.lat, .int .i64 s.lon, .int .i64 s.iso]] W (.int .u64 ((packN s : Nat) : Int)) := by
  have TL := fun (V : World) => ref14Legal s V
  simp only [h] at TL
  replace TL := Lib.hid TL
  have HF := Lib.hid (show (0 : Int) = ((packN s : Nat) : Int) from by rw [packN_not h]; rfl)
  clear h
  have st := Bs.in1 W 25 [.int .i64 s.mode, .bool s.armed, .bool s.home, .int .i64 s.lat, .int .i64 s.lon, .int .i64 s.iso]
  go_enter Try.func14, Try.ntmps14
  have fc0 := (st.box 0 rfl).f6
  go_wp2_with fail; refine callB st (TL.out _) ?_; clear st fc0; intro V1 st
  have fc0 := (st.box 0 rfl).f6
  go_wp2
  go_ret
  exact ⟨ret_int HF.out, st.lo⟩

set_option maxRecDepth 100000 in
set_option maxHeartbeats 4000000 in
theorem ref14Pack00 (s : St) (W : World) (h : Legal s) (ha : s.armed = false) (hh : s.home = false) : Gives Try.prog 14 #[.agg #[.int .i64 s.mode, .bool s.armed, .bool s.home, .int .i64 s.lat, .int .i64 s.lon, .int .i64 s.iso]] W (.int .u64 ((packN s : Nat) : Int)) := by
  have TL := fun (V : World) => ref14Legal s V
  simp only [(legal_iff s).2 h] at TL
  replace TL := Lib.hid TL
  have hp := packN_legal h
  have hl := (first_lt h).1
  obtain ⟨⟨m0, m1⟩, ⟨i0, i1⟩, _, _, _⟩ := id h
  have hfn : (firstN s : Int) = s.mode := by unfold firstN; rw [ha, hh]; simp only [Bool.false_eq_true, if_false, if_true]; omega
  obtain ⟨fB, hfB⟩ : ∃ b : UInt8, b.toNat = firstN s := ⟨UInt8.ofNat (firstN s), by rw [UInt8.toNat_ofNat']; omega⟩
  obtain ⟨iB, hiB⟩ : ∃ b : UInt8, b.toNat = s.iso.toNat := ⟨UInt8.ofNat s.iso.toNat, by rw [UInt8.toNat_ofNat']; omega⟩
  have k1 : IntKind.u8.wrap (s.mode) = (fB.toNat : Int) := by rw [hfB, ← hfn]; simp [IntKind.wrap, IntKind.signed, IntKind.bits]; omega
  have k2 : IntKind.u8.wrap s.iso = (iB.toNat : Int) := by rw [hiB]; simp [IntKind.wrap, IntKind.signed, IntKind.bits]; omega
  have k3 : IntKind.u64.wrap s.lat = ((u64N s.lat : Nat) : Int) := by rw [u64_wrapI, u64N_cast]
  have k4 : IntKind.u64.wrap s.lon = ((u64N s.lon : Nat) : Int) := by rw [u64_wrapI, u64N_cast]
  have HF := Lib.hid (show ((getB (packT fB iB s.lat s.lon) : Nat) : Int) = ((packN s : Nat) : Int) from by rw [packT_get, hfB, hiB, hp]; rfl)
  have hz := packT_size fB iB s.lat s.lon
  have TG := Lib.hid (fun (V : World) => ref06Get (packT fB iB s.lat s.lon) V (by rw [hz]; unfold maxLen; omega))
  have TA := Lib.hid (fun (V : World) => ref06PutN3 (u64N s.lat) (u64N_lt _) 3 V)
  have TO := Lib.hid (fun (V : World) => ref06PutN3 (u64N s.lon) (u64N_lt _) 3 V)
  have z0 : (bs [fB, iB]).size = 2 := rfl
  have z1 : (putB (u64N s.lat) 3).size = 3 := putB_size _ _
  have z2 : (putB (u64N s.lon) 3).size = 3 := putB_size _ _
  have c1 : ¬ 9223372036854775807 < (bs [fB, iB]).size + (putB (u64N s.lat) 3).size := by omega
  have c2 : ¬ 9223372036854775807 < (bs [fB, iB]).size + (putB (u64N s.lat) 3).size + (putB (u64N s.lon) 3).size := by omega
  clear hz z0 z1 z2 hl hp hfn hfB hiB
  have HCV := Lib.hid (fun (V : World) (g : Nat) (x : Box 5 V g [.int .u8 (fB.toNat : Int), .int .u8 (iB.toNat : Int)]) => (show (convert 53 9 (.slice (some ⟨g, 0, none⟩) 2 2)).run Try.prog V = .ok (.string (bs [fB, iB])) V from by
    have hb : BRow V g [fB, iB] := ⟨x.lt, fun j hj => by
      refine ⟨?_, x.frozen j⟩
      match j, hj with
      | 0, _ => exact x.cell 0 rfl
      | 1, _ => rw [x.cell 1 rfl]; simp only [gd, b8v]; rfl⟩
    exact hb.string Try.underlying53 Try.underlying5 Try.underlying9 2))
  unfold packT at TG HF
  generalize u64N s.lat = xa at *
  generalize u64N s.lon = xo at *
  rw [ha, hh] at *
  clear h ha hh
  have st := Bs.in1 W 25 [.int .i64 s.mode, .bool false, .bool false, .int .i64 s.lat, .int .i64 s.lon, .int .i64 s.iso]
  go_enter Try.func14, Try.ntmps14
  have fc0 := (st.box 0 rfl).f6
  go_wp2_with fail; refine callB st (TL.out _) ?_; clear st fc0; intro V1 st
  have fc0 := (st.box 0 rfl).f6
  go_wp2_with fail
  clear fc0
  replace st := st.drew
  refine rh (fun w => w.cell? ⟨W.heap.size, 0, none⟩ = some (.int .i64 s.mode) ∧ w.cell? ⟨W.heap.size, 3, none⟩ = some (.int .i64 s.lat) ∧ w.cell? ⟨W.heap.size, 4, none⟩ = some (.int .i64 s.lon) ∧ w.cell? ⟨W.heap.size, 5, none⟩ = some (.int .i64 s.iso)) ⟨(st.box 0 rfl).cell 0 rfl, (st.box 0 rfl).cell 3 rfl, (st.box 0 rfl).cell 4 rfl, (st.box 0 rfl).cell 5 rfl⟩ fun hHeld => ?_
  generalize V1.drew = V2 at *
  refine tq 0 ?_; refine tq 1 ?_; refine tq 2 ?_; refine tq 3 ?_; refine tq 4 ?_; refine tq 7 ?_; refine tq 8 ?_; refine tq 9 ?_; refine tq 12 ?_; refine tq 13 ?_; refine tq 14 ?_
  try simp only [Act.put, l1, l2, l3, l4, l5, l6]
  refine wpAnyH_ready (rs := [5, 10]) (by kernel_rfl) (by simp) (AllReadyH.cons rfl (fun K hK => ?_) (AllReadyH.cons rfl (fun K hK => ?_) (AllReadyH.nil)))
  · have fc0 := (st.box 0 rfl).f6
    go_simp
    clear fc0
    replace st := st.alloc 5 [.int .u8 (fB.toNat : Int), .int .u8 (iB.toNat : Int)]
    replace st := st.name; obtain ⟨V3, hV, st⟩ := st; rw [hV]; clear hV
    generalize V2.heap.size = g_xb at *
    try go_wp2_with fail
    clear hHeld; refine hK.out _ _ ⟨(st.box 1 rfl).cell 0 rfl, (st.box 1 rfl).cell 3 rfl, (st.box 1 rfl).cell 4 rfl, (st.box 1 rfl).cell 5 rfl⟩ fun hHeld => ?_; clear hK K
    try simp only [Act.put, l1, l2, l3, l4, l5, l6]
    refine wpAnyH_ready (rs := [6, 10]) (by kernel_rfl) (by simp) (AllReadyH.cons rfl (fun K hK => ?_) (AllReadyH.cons rfl (fun K hK => ?_) (AllReadyH.nil)))
    · have fc0 := (st.box 1 rfl).f6; have fc1 := (st.box 0 rfl).f2
      have hcv := HCV.out _ _ (st.box 0 rfl)
      go_simp
      clear hcv
      try go_wp2_with fail
      clear hHeld fc0 fc1; refine hK.out _ _ ⟨(st.box 1 rfl).cell 0 rfl, (st.box 1 rfl).cell 3 rfl, (st.box 1 rfl).cell 4 rfl, (st.box 1 rfl).cell 5 rfl⟩ fun hHeld => ?_; clear hK K
      try simp only [Act.put, l1, l2, l3, l4, l5, l6]
      refine rd 10 fun K hK => ?_
      have fc0 := (st.box 1 rfl).f6; have fc1 := (st.box 0 rfl).f2
      go_simp
      refine callB st (TA.out _) ?_; clear st fc0 fc1; intro V4 st
      have fc0 := (st.box 1 rfl).f6; have fc1 := (st.box 0 rfl).f2
      try go_wp2_with fail
      clear hHeld fc0 fc1; refine hK.out _ _ ⟨(st.box 1 rfl).cell 0 rfl, (st.box 1 rfl).cell 3 rfl, (st.box 1 rfl).cell 4 rfl, (st.box 1 rfl).cell 5 rfl⟩ fun hHeld => ?_; clear hK K
      try simp only [Act.put, l1, l2, l3, l4, l5, l6]
      refine tq 11 ?_
      try simp only [Act.put, l1, l2, l3, l4, l5, l6]
      refine rd 15 fun K hK => ?_
      have fc0 := (st.box 1 rfl).f6; have fc1 := (st.box 0 rfl).f2
      go_simp
      refine callB st (TO.out _) ?_; clear st fc0 fc1; intro V5 st
      have fc0 := (st.box 1 rfl).f6; have fc1 := (st.box 0 rfl).f2
      try go_wp2_with fail
      clear hHeld fc0 fc1; refine hK.out _ _ ⟨(st.box 1 rfl).cell 0 rfl, (st.box 1 rfl).cell 3 rfl, (st.box 1 rfl).cell 4 rfl, (st.box 1 rfl).cell 5 rfl⟩ fun hHeld => ?_; clear hK K
      try simp only [Act.put, l1, l2, l3, l4, l5, l6]
      refine tq 16 ?_
      try simp only [Act.put, l1, l2, l3, l4, l5, l6]
      refine rd 17 fun K hK => ?_
      have fc0 := (st.box 1 rfl).f6; have fc1 := (st.box 0 rfl).f2
      go_simp
      refine callQ (TG.out _) ?_
      try go_wp2_with fail
      clear hHeld fc0 fc1; refine hK.out _ _ ⟨(st.box 1 rfl).cell 0 rfl, (st.box 1 rfl).cell 3 rfl, (st.box 1 rfl).cell 4 rfl, (st.box 1 rfl).cell 5 rfl⟩ fun hHeld => ?_; clear hK K
      try simp only [Act.put, l1, l2, l3, l4, l5, l6]
      refine tq 18 ?_
      try simp only [Act.put, l1, l2, l3, l4, l5, l6]
      refine wpAnyH_done (by kernel_rfl) ?_ _; clear hHeld
      have fc0 := (st.box 1 rfl).f6; have fc1 := (st.box 0 rfl).f2
      go_wp2
      go_ret
      exact ⟨ret_int HF.out, st.lo⟩
    · have fc0 := (st.box 1 rfl).f6; have fc1 := (st.box 0 rfl).f2
      go_simp
      refine callB st (TA.out _) ?_; clear st fc0 fc1; intro V4 st
      have fc0 := (st.box 1 rfl).f6; have fc1 := (st.box 0 rfl).f2
      try go_wp2_with fail
      clear hHeld fc0 fc1; refine hK.out _ _ ⟨(st.box 1 rfl).cell 0 rfl, (st.box 1 rfl).cell 3 rfl, (st.box 1 rfl).cell 4 rfl, (st.box 1 rfl).cell 5 rfl⟩ fun hHeld => ?_; clear hK K
      try simp only [Act.put, l1, l2, l3, l4, l5, l6]
      refine wpAnyH_ready (rs := [6, 15]) (by kernel_rfl) (by simp) (AllReadyH.cons rfl (fun K hK => ?_) (AllReadyH.cons rfl (fun K hK => ?_) (AllReadyH.nil)))
      · have fc0 := (st.box 1 rfl).f6; have fc1 := (st.box 0 rfl).f2
        have hcv := HCV.out _ _ (st.box 0 rfl)
        go_simp
        clear hcv
        try go_wp2_with fail
        clear hHeld fc0 fc1; refine hK.out _ _ ⟨(st.box 1 rfl).cell 0 rfl, (st.box 1 rfl).cell 3 rfl, (st.box 1 rfl).cell 4 rfl, (st.box 1 rfl).cell 5 rfl⟩ fun hHeld => ?_; clear hK K
        try simp only [Act.put, l1, l2, l3, l4, l5, l6]
        refine tq 11 ?_
        try simp only [Act.put, l1, l2, l3, l4, l5, l6]
        refine rd 15 fun K hK => ?_
        have fc0 := (st.box 1 rfl).f6; have fc1 := (st.box 0 rfl).f2
        go_simp
        refine callB st (TO.out _) ?_; clear st fc0 fc1; intro V5 st
        have fc0 := (st.box 1 rfl).f6; have fc1 := (st.box 0 rfl).f2
        try go_wp2_with fail
        clear hHeld fc0 fc1; refine hK.out _ _ ⟨(st.box 1 rfl).cell 0 rfl, (st.box 1 rfl).cell 3 rfl, (st.box 1 rfl).cell 4 rfl, (st.box 1 rfl).cell 5 rfl⟩ fun hHeld => ?_; clear hK K
        try simp only [Act.put, l1, l2, l3, l4, l5, l6]
        refine tq 16 ?_
        try simp only [Act.put, l1, l2, l3, l4, l5, l6]
        refine rd 17 fun K hK => ?_
        have fc0 := (st.box 1 rfl).f6; have fc1 := (st.box 0 rfl).f2
        go_simp
        refine callQ (TG.out _) ?_
        try go_wp2_with fail
        clear hHeld fc0 fc1; refine hK.out _ _ ⟨(st.box 1 rfl).cell 0 rfl, (st.box 1 rfl).cell 3 rfl, (st.box 1 rfl).cell 4 rfl, (st.box 1 rfl).cell 5 rfl⟩ fun hHeld => ?_; clear hK K
        try simp only [Act.put, l1, l2, l3, l4, l5, l6]
        refine tq 18 ?_
        try simp only [Act.put, l1, l2, l3, l4, l5, l6]
        refine wpAnyH_done (by kernel_rfl) ?_ _; clear hHeld
        have fc0 := (st.box 1 rfl).f6; have fc1 := (st.box 0 rfl).f2
        go_wp2
        go_ret
        exact ⟨ret_int HF.out, st.lo⟩
      · have fc0 := (st.box 1 rfl).f6; have fc1 := (st.box 0 rfl).f2
        go_simp
        refine callB st (TO.out _) ?_; clear st fc0 fc1; intro V5 st
        have fc0 := (st.box 1 rfl).f6; have fc1 := (st.box 0 rfl).f2
        try go_wp2_with fail
        clear hHeld fc0 fc1; refine hK.out _ _ ⟨(st.box 1 rfl).cell 0 rfl, (st.box 1 rfl).cell 3 rfl, (st.box 1 rfl).cell 4 rfl, (st.box 1 rfl).cell 5 rfl⟩ fun hHeld => ?_; clear hK K
        try simp only [Act.put, l1, l2, l3, l4, l5, l6]
        refine rd 6 fun K hK => ?_
        have fc0 := (st.box 1 rfl).f6; have fc1 := (st.box 0 rfl).f2
        have hcv := HCV.out _ _ (st.box 0 rfl)
        go_simp
        clear hcv
        try go_wp2_with fail
        clear hHeld fc0 fc1; refine hK.out _ _ ⟨(st.box 1 rfl).cell 0 rfl, (st.box 1 rfl).cell 3 rfl, (st.box 1 rfl).cell 4 rfl, (st.box 1 rfl).cell 5 rfl⟩ fun hHeld => ?_; clear hK K
        try simp only [Act.put, l1, l2, l3, l4, l5, l6]
        refine tq 11 ?_; refine tq 16 ?_
        try simp only [Act.put, l1, l2, l3, l4, l5, l6]
        refine rd 17 fun K hK => ?_
        have fc0 := (st.box 1 rfl).f6; have fc1 := (st.box 0 rfl).f2
        go_simp
        refine callQ (TG.out _) ?_
        try go_wp2_with fail
        clear hHeld fc0 fc1; refine hK.out _ _ ⟨(st.box 1 rfl).cell 0 rfl, (st.box 1 rfl).cell 3 rfl, (st.box 1 rfl).cell 4 rfl, (st.box 1 rfl).cell 5 rfl⟩ fun hHeld => ?_; clear hK K
        try simp only [Act.put, l1, l2, l3, l4, l5, l6]
        refine tq 18 ?_
        try simp only [Act.put, l1, l2, l3, l4, l5, l6]
        refine wpAnyH_done (by kernel_rfl) ?_ _; clear hHeld
        have fc0 := (st.box 1 rfl).f6; have fc1 := (st.box 0 rfl).f2
        go_wp2
        go_ret
        exact ⟨ret_int HF.out, st.lo⟩
  · have fc0 := (st.box 0 rfl).f6
    go_simp
    refine callB st (TA.out _) ?_; clear st fc0; intro V3 st
    have fc0 := (st.box 0 rfl).f6
    try go_wp2_with fail
    clear hHeld fc0; refine hK.out _ _ ⟨(st.box 0 rfl).cell 0 rfl, (st.box 0 rfl).cell 3 rfl, (st.box 0 rfl).cell 4 rfl, (st.box 0 rfl).cell 5 rfl⟩ fun hHeld => ?_; clear hK K
    try simp only [Act.put, l1, l2, l3, l4, l5, l6]
    refine wpAnyH_ready (rs := [5, 15]) (by kernel_rfl) (by simp) (AllReadyH.cons rfl (fun K hK => ?_) (AllReadyH.cons rfl (fun K hK => ?_) (AllReadyH.nil)))
    · have fc0 := (st.box 0 rfl).f6
      go_simp
      clear fc0
      replace st := st.alloc 5 [.int .u8 (fB.toNat : Int), .int .u8 (iB.toNat : Int)]
      replace st := st.name; obtain ⟨V4, hV, st⟩ := st; rw [hV]; clear hV
      generalize V3.heap.size = g_xb at *
      try go_wp2_with fail
      clear hHeld; refine hK.out _ _ ⟨(st.box 1 rfl).cell 0 rfl, (st.box 1 rfl).cell 3 rfl, (st.box 1 rfl).cell 4 rfl, (st.box 1 rfl).cell 5 rfl⟩ fun hHeld => ?_; clear hK K
      try simp only [Act.put, l1, l2, l3, l4, l5, l6]
      refine wpAnyH_ready (rs := [6, 15]) (by kernel_rfl) (by simp) (AllReadyH.cons rfl (fun K hK => ?_) (AllReadyH.cons rfl (fun K hK => ?_) (AllReadyH.nil)))
      · have fc0 := (st.box 1 rfl).f6; have fc1 := (st.box 0 rfl).f2
        have hcv := HCV.out _ _ (st.box 0 rfl)
        go_simp
        clear hcv
        try go_wp2_with fail
        clear hHeld fc0 fc1; refine hK.out _ _ ⟨(st.box 1 rfl).cell 0 rfl, (st.box 1 rfl).cell 3 rfl, (st.box 1 rfl).cell 4 rfl, (st.box 1 rfl).cell 5 rfl⟩ fun hHeld => ?_; clear hK K
        try simp only [Act.put, l1, l2, l3, l4, l5, l6]
        refine tq 11 ?_
        try simp only [Act.put, l1, l2, l3, l4, l5, l6]
        refine rd 15 fun K hK => ?_
        have fc0 := (st.box 1 rfl).f6; have fc1 := (st.box 0 rfl).f2
        go_simp
        refine callB st (TO.out _) ?_; clear st fc0 fc1; intro V5 st
        have fc0 := (st.box 1 rfl).f6; have fc1 := (st.box 0 rfl).f2
        try go_wp2_with fail
        clear hHeld fc0 fc1; refine hK.out _ _ ⟨(st.box 1 rfl).cell 0 rfl, (st.box 1 rfl).cell 3 rfl, (st.box 1 rfl).cell 4 rfl, (st.box 1 rfl).cell 5 rfl⟩ fun hHeld => ?_; clear hK K
        try simp only [Act.put, l1, l2, l3, l4, l5, l6]
        refine tq 16 ?_
        try simp only [Act.put, l1, l2, l3, l4, l5, l6]
        refine rd 17 fun K hK => ?_
        have fc0 := (st.box 1 rfl).f6; have fc1 := (st.box 0 rfl).f2
        go_simp
        refine callQ (TG.out _) ?_
        try go_wp2_with fail
        clear hHeld fc0 fc1; refine hK.out _ _ ⟨(st.box 1 rfl).cell 0 rfl, (st.box 1 rfl).cell 3 rfl, (st.box 1 rfl).cell 4 rfl, (st.box 1 rfl).cell 5 rfl⟩ fun hHeld => ?_; clear hK K
        try simp only [Act.put, l1, l2, l3, l4, l5, l6]
        refine tq 18 ?_
        try simp only [Act.put, l1, l2, l3, l4, l5, l6]
        refine wpAnyH_done (by kernel_rfl) ?_ _; clear hHeld
        have fc0 := (st.box 1 rfl).f6; have fc1 := (st.box 0 rfl).f2
        go_wp2
        go_ret
        exact ⟨ret_int HF.out, st.lo⟩
      · have fc0 := (st.box 1 rfl).f6; have fc1 := (st.box 0 rfl).f2
        go_simp
        refine callB st (TO.out _) ?_; clear st fc0 fc1; intro V5 st
        have fc0 := (st.box 1 rfl).f6; have fc1 := (st.box 0 rfl).f2
        try go_wp2_with fail
        clear hHeld fc0 fc1; refine hK.out _ _ ⟨(st.box 1 rfl).cell 0 rfl, (st.box 1 rfl).cell 3 rfl, (st.box 1 rfl).cell 4 rfl, (st.box 1 rfl).cell 5 rfl⟩ fun hHeld => ?_; clear hK K
        try simp only [Act.put, l1, l2, l3, l4, l5, l6]
        refine rd 6 fun K hK => ?_
        have fc0 := (st.box 1 rfl).f6; have fc1 := (st.box 0 rfl).f2
        have hcv := HCV.out _ _ (st.box 0 rfl)
        go_simp
        clear hcv
        try go_wp2_with fail
        clear hHeld fc0 fc1; refine hK.out _ _ ⟨(st.box 1 rfl).cell 0 rfl, (st.box 1 rfl).cell 3 rfl, (st.box 1 rfl).cell 4 rfl, (st.box 1 rfl).cell 5 rfl⟩ fun hHeld => ?_; clear hK K
        try simp only [Act.put, l1, l2, l3, l4, l5, l6]
        refine tq 11 ?_; refine tq 16 ?_
        try simp only [Act.put, l1, l2, l3, l4, l5, l6]
        refine rd 17 fun K hK => ?_
        have fc0 := (st.box 1 rfl).f6; have fc1 := (st.box 0 rfl).f2
        go_simp
        refine callQ (TG.out _) ?_
        try go_wp2_with fail
        clear hHeld fc0 fc1; refine hK.out _ _ ⟨(st.box 1 rfl).cell 0 rfl, (st.box 1 rfl).cell 3 rfl, (st.box 1 rfl).cell 4 rfl, (st.box 1 rfl).cell 5 rfl⟩ fun hHeld => ?_; clear hK K
        try simp only [Act.put, l1, l2, l3, l4, l5, l6]
        refine tq 18 ?_
        try simp only [Act.put, l1, l2, l3, l4, l5, l6]
        refine wpAnyH_done (by kernel_rfl) ?_ _; clear hHeld
        have fc0 := (st.box 1 rfl).f6; have fc1 := (st.box 0 rfl).f2
        go_wp2
        go_ret
        exact ⟨ret_int HF.out, st.lo⟩
    · have fc0 := (st.box 0 rfl).f6
      go_simp
      refine callB st (TO.out _) ?_; clear st fc0; intro V4 st
      have fc0 := (st.box 0 rfl).f6
      try go_wp2_with fail
      clear hHeld fc0; refine hK.out _ _ ⟨(st.box 0 rfl).cell 0 rfl, (st.box 0 rfl).cell 3 rfl, (st.box 0 rfl).cell 4 rfl, (st.box 0 rfl).cell 5 rfl⟩ fun hHeld => ?_; clear hK K
      try simp only [Act.put, l1, l2, l3, l4, l5, l6]
      refine rd 5 fun K hK => ?_
      have fc0 := (st.box 0 rfl).f6
      go_simp
      clear fc0
      replace st := st.alloc 5 [.int .u8 (fB.toNat : Int), .int .u8 (iB.toNat : Int)]
      replace st := st.name; obtain ⟨V5, hV, st⟩ := st; rw [hV]; clear hV
      generalize V4.heap.size = g_xb at *
      try go_wp2_with fail
      clear hHeld; refine hK.out _ _ ⟨(st.box 1 rfl).cell 0 rfl, (st.box 1 rfl).cell 3 rfl, (st.box 1 rfl).cell 4 rfl, (st.box 1 rfl).cell 5 rfl⟩ fun hHeld => ?_; clear hK K
      try simp only [Act.put, l1, l2, l3, l4, l5, l6]
      refine rd 6 fun K hK => ?_
      have fc0 := (st.box 1 rfl).f6; have fc1 := (st.box 0 rfl).f2
      have hcv := HCV.out _ _ (st.box 0 rfl)
      go_simp
      clear hcv
      try go_wp2_with fail
      clear hHeld fc0 fc1; refine hK.out _ _ ⟨(st.box 1 rfl).cell 0 rfl, (st.box 1 rfl).cell 3 rfl, (st.box 1 rfl).cell 4 rfl, (st.box 1 rfl).cell 5 rfl⟩ fun hHeld => ?_; clear hK K
      try simp only [Act.put, l1, l2, l3, l4, l5, l6]
      refine tq 11 ?_; refine tq 16 ?_
      try simp only [Act.put, l1, l2, l3, l4, l5, l6]
      refine rd 17 fun K hK => ?_
      have fc0 := (st.box 1 rfl).f6; have fc1 := (st.box 0 rfl).f2
      go_simp
      refine callQ (TG.out _) ?_
      try go_wp2_with fail
      clear hHeld fc0 fc1; refine hK.out _ _ ⟨(st.box 1 rfl).cell 0 rfl, (st.box 1 rfl).cell 3 rfl, (st.box 1 rfl).cell 4 rfl, (st.box 1 rfl).cell 5 rfl⟩ fun hHeld => ?_; clear hK K
      try simp only [Act.put, l1, l2, l3, l4, l5, l6]
      refine tq 18 ?_
      try simp only [Act.put, l1, l2, l3, l4, l5, l6]
      refine wpAnyH_done (by kernel_rfl) ?_ _; clear hHeld
      have fc0 := (st.box 1 rfl).f6; have fc1 := (st.box 0 rfl).f2
      go_wp2
      go_ret
      exact ⟨ret_int HF.out, st.lo⟩

set_option maxRecDepth 100000 in
set_option maxHeartbeats 4000000 in
theorem ref14Pack10 (s : St) (W : World) (h : Legal s) (ha : s.armed = true) (hh : s.home = false) : Gives Try.prog 14 #[.agg #[.int .i64 s.mode, .bool s.armed, .bool s.home, .int .i64 s.lat, .int .i64 s.lon, .int .i64 s.iso]] W (.int .u64 ((packN s : Nat) : Int)) := by
  have TL := fun (V : World) => ref14Legal s V
  simp only [(legal_iff s).2 h] at TL
  replace TL := Lib.hid TL
  have hp := packN_legal h
  have hl := (first_lt h).1
  obtain ⟨⟨m0, m1⟩, ⟨i0, i1⟩, _, _, _⟩ := id h
  have hfn : (firstN s : Int) = s.mode + 8 := by unfold firstN; rw [ha, hh]; simp only [Bool.false_eq_true, if_false, if_true]; omega
  obtain ⟨fB, hfB⟩ : ∃ b : UInt8, b.toNat = firstN s := ⟨UInt8.ofNat (firstN s), by rw [UInt8.toNat_ofNat']; omega⟩
  obtain ⟨iB, hiB⟩ : ∃ b : UInt8, b.toNat = s.iso.toNat := ⟨UInt8.ofNat s.iso.toNat, by rw [UInt8.toNat_ofNat']; omega⟩
  have k1 : IntKind.u8.wrap (s.mode + 8) = (fB.toNat : Int) := by rw [hfB, ← hfn]; simp [IntKind.wrap, IntKind.signed, IntKind.bits]; omega
  have k2 : IntKind.u8.wrap s.iso = (iB.toNat : Int) := by rw [hiB]; simp [IntKind.wrap, IntKind.signed, IntKind.bits]; omega
  have k3 : IntKind.u64.wrap s.lat = ((u64N s.lat : Nat) : Int) := by rw [u64_wrapI, u64N_cast]
  have k4 : IntKind.u64.wrap s.lon = ((u64N s.lon : Nat) : Int) := by rw [u64_wrapI, u64N_cast]
  have HF := Lib.hid (show ((getB (packT fB iB s.lat s.lon) : Nat) : Int) = ((packN s : Nat) : Int) from by rw [packT_get, hfB, hiB, hp]; rfl)
  have hz := packT_size fB iB s.lat s.lon
  have TG := Lib.hid (fun (V : World) => ref06Get (packT fB iB s.lat s.lon) V (by rw [hz]; unfold maxLen; omega))
  have TA := Lib.hid (fun (V : World) => ref06PutN3 (u64N s.lat) (u64N_lt _) 3 V)
  have TO := Lib.hid (fun (V : World) => ref06PutN3 (u64N s.lon) (u64N_lt _) 3 V)
  have z0 : (bs [fB, iB]).size = 2 := rfl
  have z1 : (putB (u64N s.lat) 3).size = 3 := putB_size _ _
  have z2 : (putB (u64N s.lon) 3).size = 3 := putB_size _ _
  have c1 : ¬ 9223372036854775807 < (bs [fB, iB]).size + (putB (u64N s.lat) 3).size := by omega
  have c2 : ¬ 9223372036854775807 < (bs [fB, iB]).size + (putB (u64N s.lat) 3).size + (putB (u64N s.lon) 3).size := by omega
  clear hz z0 z1 z2 hl hp hfn hfB hiB
  have HCV := Lib.hid (fun (V : World) (g : Nat) (x : Box 5 V g [.int .u8 (fB.toNat : Int), .int .u8 (iB.toNat : Int)]) => (show (convert 53 9 (.slice (some ⟨g, 0, none⟩) 2 2)).run Try.prog V = .ok (.string (bs [fB, iB])) V from by
    have hb : BRow V g [fB, iB] := ⟨x.lt, fun j hj => by
      refine ⟨?_, x.frozen j⟩
      match j, hj with
      | 0, _ => exact x.cell 0 rfl
      | 1, _ => rw [x.cell 1 rfl]; simp only [gd, b8v]; rfl⟩
    exact hb.string Try.underlying53 Try.underlying5 Try.underlying9 2))
  unfold packT at TG HF
  generalize u64N s.lat = xa at *
  generalize u64N s.lon = xo at *
  rw [ha, hh] at *
  clear h ha hh
  have st := Bs.in1 W 25 [.int .i64 s.mode, .bool true, .bool false, .int .i64 s.lat, .int .i64 s.lon, .int .i64 s.iso]
  go_enter Try.func14, Try.ntmps14
  have fc0 := (st.box 0 rfl).f6
  go_wp2_with fail; refine callB st (TL.out _) ?_; clear st fc0; intro V1 st
  have fc0 := (st.box 0 rfl).f6
  go_wp2_with fail
  clear fc0
  replace st := st.drew
  refine rh (fun w => w.cell? ⟨W.heap.size, 0, none⟩ = some (.int .i64 s.mode) ∧ w.cell? ⟨W.heap.size, 3, none⟩ = some (.int .i64 s.lat) ∧ w.cell? ⟨W.heap.size, 4, none⟩ = some (.int .i64 s.lon) ∧ w.cell? ⟨W.heap.size, 5, none⟩ = some (.int .i64 s.iso)) ⟨(st.box 0 rfl).cell 0 rfl, (st.box 0 rfl).cell 3 rfl, (st.box 0 rfl).cell 4 rfl, (st.box 0 rfl).cell 5 rfl⟩ fun hHeld => ?_
  generalize V1.drew = V2 at *
  refine tq 0 ?_; refine tq 1 ?_; refine tq 2 ?_; refine tq 3 ?_; refine tq 4 ?_; refine tq 7 ?_; refine tq 8 ?_; refine tq 9 ?_; refine tq 12 ?_; refine tq 13 ?_; refine tq 14 ?_
  try simp only [Act.put, l1, l2, l3, l4, l5, l6]
  refine wpAnyH_ready (rs := [5, 10]) (by kernel_rfl) (by simp) (AllReadyH.cons rfl (fun K hK => ?_) (AllReadyH.cons rfl (fun K hK => ?_) (AllReadyH.nil)))
  · have fc0 := (st.box 0 rfl).f6
    go_simp
    clear fc0
    replace st := st.alloc 5 [.int .u8 (fB.toNat : Int), .int .u8 (iB.toNat : Int)]
    replace st := st.name; obtain ⟨V3, hV, st⟩ := st; rw [hV]; clear hV
    generalize V2.heap.size = g_xb at *
    try go_wp2_with fail
    clear hHeld; refine hK.out _ _ ⟨(st.box 1 rfl).cell 0 rfl, (st.box 1 rfl).cell 3 rfl, (st.box 1 rfl).cell 4 rfl, (st.box 1 rfl).cell 5 rfl⟩ fun hHeld => ?_; clear hK K
    try simp only [Act.put, l1, l2, l3, l4, l5, l6]
    refine wpAnyH_ready (rs := [6, 10]) (by kernel_rfl) (by simp) (AllReadyH.cons rfl (fun K hK => ?_) (AllReadyH.cons rfl (fun K hK => ?_) (AllReadyH.nil)))
    · have fc0 := (st.box 1 rfl).f6; have fc1 := (st.box 0 rfl).f2
      have hcv := HCV.out _ _ (st.box 0 rfl)
      go_simp
      clear hcv
      try go_wp2_with fail
      clear hHeld fc0 fc1; refine hK.out _ _ ⟨(st.box 1 rfl).cell 0 rfl, (st.box 1 rfl).cell 3 rfl, (st.box 1 rfl).cell 4 rfl, (st.box 1 rfl).cell 5 rfl⟩ fun hHeld => ?_; clear hK K
      try simp only [Act.put, l1, l2, l3, l4, l5, l6]
      refine rd 10 fun K hK => ?_
      have fc0 := (st.box 1 rfl).f6; have fc1 := (st.box 0 rfl).f2
      go_simp
      refine callB st (TA.out _) ?_; clear st fc0 fc1; intro V4 st
      have fc0 := (st.box 1 rfl).f6; have fc1 := (st.box 0 rfl).f2
      try go_wp2_with fail
      clear hHeld fc0 fc1; refine hK.out _ _ ⟨(st.box 1 rfl).cell 0 rfl, (st.box 1 rfl).cell 3 rfl, (st.box 1 rfl).cell 4 rfl, (st.box 1 rfl).cell 5 rfl⟩ fun hHeld => ?_; clear hK K
      try simp only [Act.put, l1, l2, l3, l4, l5, l6]
      refine tq 11 ?_
      try simp only [Act.put, l1, l2, l3, l4, l5, l6]
      refine rd 15 fun K hK => ?_
      have fc0 := (st.box 1 rfl).f6; have fc1 := (st.box 0 rfl).f2
      go_simp
      refine callB st (TO.out _) ?_; clear st fc0 fc1; intro V5 st
      have fc0 := (st.box 1 rfl).f6; have fc1 := (st.box 0 rfl).f2
      try go_wp2_with fail
      clear hHeld fc0 fc1; refine hK.out _ _ ⟨(st.box 1 rfl).cell 0 rfl, (st.box 1 rfl).cell 3 rfl, (st.box 1 rfl).cell 4 rfl, (st.box 1 rfl).cell 5 rfl⟩ fun hHeld => ?_; clear hK K
      try simp only [Act.put, l1, l2, l3, l4, l5, l6]
      refine tq 16 ?_
      try simp only [Act.put, l1, l2, l3, l4, l5, l6]
      refine rd 17 fun K hK => ?_
      have fc0 := (st.box 1 rfl).f6; have fc1 := (st.box 0 rfl).f2
      go_simp
      refine callQ (TG.out _) ?_
      try go_wp2_with fail
      clear hHeld fc0 fc1; refine hK.out _ _ ⟨(st.box 1 rfl).cell 0 rfl, (st.box 1 rfl).cell 3 rfl, (st.box 1 rfl).cell 4 rfl, (st.box 1 rfl).cell 5 rfl⟩ fun hHeld => ?_; clear hK K
      try simp only [Act.put, l1, l2, l3, l4, l5, l6]
      refine tq 18 ?_
      try simp only [Act.put, l1, l2, l3, l4, l5, l6]
      refine wpAnyH_done (by kernel_rfl) ?_ _; clear hHeld
      have fc0 := (st.box 1 rfl).f6; have fc1 := (st.box 0 rfl).f2
      go_wp2
      go_ret
      exact ⟨ret_int HF.out, st.lo⟩
    · have fc0 := (st.box 1 rfl).f6; have fc1 := (st.box 0 rfl).f2
      go_simp
      refine callB st (TA.out _) ?_; clear st fc0 fc1; intro V4 st
      have fc0 := (st.box 1 rfl).f6; have fc1 := (st.box 0 rfl).f2
      try go_wp2_with fail
      clear hHeld fc0 fc1; refine hK.out _ _ ⟨(st.box 1 rfl).cell 0 rfl, (st.box 1 rfl).cell 3 rfl, (st.box 1 rfl).cell 4 rfl, (st.box 1 rfl).cell 5 rfl⟩ fun hHeld => ?_; clear hK K
      try simp only [Act.put, l1, l2, l3, l4, l5, l6]
      refine wpAnyH_ready (rs := [6, 15]) (by kernel_rfl) (by simp) (AllReadyH.cons rfl (fun K hK => ?_) (AllReadyH.cons rfl (fun K hK => ?_) (AllReadyH.nil)))
      · have fc0 := (st.box 1 rfl).f6; have fc1 := (st.box 0 rfl).f2
        have hcv := HCV.out _ _ (st.box 0 rfl)
        go_simp
        clear hcv
        try go_wp2_with fail
        clear hHeld fc0 fc1; refine hK.out _ _ ⟨(st.box 1 rfl).cell 0 rfl, (st.box 1 rfl).cell 3 rfl, (st.box 1 rfl).cell 4 rfl, (st.box 1 rfl).cell 5 rfl⟩ fun hHeld => ?_; clear hK K
        try simp only [Act.put, l1, l2, l3, l4, l5, l6]
        refine tq 11 ?_
        try simp only [Act.put, l1, l2, l3, l4, l5, l6]
        refine rd 15 fun K hK => ?_
        have fc0 := (st.box 1 rfl).f6; have fc1 := (st.box 0 rfl).f2
        go_simp
        refine callB st (TO.out _) ?_; clear st fc0 fc1; intro V5 st
        have fc0 := (st.box 1 rfl).f6; have fc1 := (st.box 0 rfl).f2
        try go_wp2_with fail
        clear hHeld fc0 fc1; refine hK.out _ _ ⟨(st.box 1 rfl).cell 0 rfl, (st.box 1 rfl).cell 3 rfl, (st.box 1 rfl).cell 4 rfl, (st.box 1 rfl).cell 5 rfl⟩ fun hHeld => ?_; clear hK K
        try simp only [Act.put, l1, l2, l3, l4, l5, l6]
        refine tq 16 ?_
        try simp only [Act.put, l1, l2, l3, l4, l5, l6]
        refine rd 17 fun K hK => ?_
        have fc0 := (st.box 1 rfl).f6; have fc1 := (st.box 0 rfl).f2
        go_simp
        refine callQ (TG.out _) ?_
        try go_wp2_with fail
        clear hHeld fc0 fc1; refine hK.out _ _ ⟨(st.box 1 rfl).cell 0 rfl, (st.box 1 rfl).cell 3 rfl, (st.box 1 rfl).cell 4 rfl, (st.box 1 rfl).cell 5 rfl⟩ fun hHeld => ?_; clear hK K
        try simp only [Act.put, l1, l2, l3, l4, l5, l6]
        refine tq 18 ?_
        try simp only [Act.put, l1, l2, l3, l4, l5, l6]
        refine wpAnyH_done (by kernel_rfl) ?_ _; clear hHeld
        have fc0 := (st.box 1 rfl).f6; have fc1 := (st.box 0 rfl).f2
        go_wp2
        go_ret
        exact ⟨ret_int HF.out, st.lo⟩
      · have fc0 := (st.box 1 rfl).f6; have fc1 := (st.box 0 rfl).f2
        go_simp
        refine callB st (TO.out _) ?_; clear st fc0 fc1; intro V5 st
        have fc0 := (st.box 1 rfl).f6; have fc1 := (st.box 0 rfl).f2
        try go_wp2_with fail
        clear hHeld fc0 fc1; refine hK.out _ _ ⟨(st.box 1 rfl).cell 0 rfl, (st.box 1 rfl).cell 3 rfl, (st.box 1 rfl).cell 4 rfl, (st.box 1 rfl).cell 5 rfl⟩ fun hHeld => ?_; clear hK K
        try simp only [Act.put, l1, l2, l3, l4, l5, l6]
        refine rd 6 fun K hK => ?_
        have fc0 := (st.box 1 rfl).f6; have fc1 := (st.box 0 rfl).f2
        have hcv := HCV.out _ _ (st.box 0 rfl)
        go_simp
        clear hcv
        try go_wp2_with fail
        clear hHeld fc0 fc1; refine hK.out _ _ ⟨(st.box 1 rfl).cell 0 rfl, (st.box 1 rfl).cell 3 rfl, (st.box 1 rfl).cell 4 rfl, (st.box 1 rfl).cell 5 rfl⟩ fun hHeld => ?_; clear hK K
        try simp only [Act.put, l1, l2, l3, l4, l5, l6]
        refine tq 11 ?_; refine tq 16 ?_
        try simp only [Act.put, l1, l2, l3, l4, l5, l6]
        refine rd 17 fun K hK => ?_
        have fc0 := (st.box 1 rfl).f6; have fc1 := (st.box 0 rfl).f2
        go_simp
        refine callQ (TG.out _) ?_
        try go_wp2_with fail
        clear hHeld fc0 fc1; refine hK.out _ _ ⟨(st.box 1 rfl).cell 0 rfl, (st.box 1 rfl).cell 3 rfl, (st.box 1 rfl).cell 4 rfl, (st.box 1 rfl).cell 5 rfl⟩ fun hHeld => ?_; clear hK K
        try simp only [Act.put, l1, l2, l3, l4, l5, l6]
        refine tq 18 ?_
        try simp only [Act.put, l1, l2, l3, l4, l5, l6]
        refine wpAnyH_done (by kernel_rfl) ?_ _; clear hHeld
        have fc0 := (st.box 1 rfl).f6; have fc1 := (st.box 0 rfl).f2
        go_wp2
        go_ret
        exact ⟨ret_int HF.out, st.lo⟩
  · have fc0 := (st.box 0 rfl).f6
    go_simp
    refine callB st (TA.out _) ?_; clear st fc0; intro V3 st
    have fc0 := (st.box 0 rfl).f6
    try go_wp2_with fail
    clear hHeld fc0; refine hK.out _ _ ⟨(st.box 0 rfl).cell 0 rfl, (st.box 0 rfl).cell 3 rfl, (st.box 0 rfl).cell 4 rfl, (st.box 0 rfl).cell 5 rfl⟩ fun hHeld => ?_; clear hK K
    try simp only [Act.put, l1, l2, l3, l4, l5, l6]
    refine wpAnyH_ready (rs := [5, 15]) (by kernel_rfl) (by simp) (AllReadyH.cons rfl (fun K hK => ?_) (AllReadyH.cons rfl (fun K hK => ?_) (AllReadyH.nil)))
    · have fc0 := (st.box 0 rfl).f6
      go_simp
      clear fc0
      replace st := st.alloc 5 [.int .u8 (fB.toNat : Int), .int .u8 (iB.toNat : Int)]
      replace st := st.name; obtain ⟨V4, hV, st⟩ := st; rw [hV]; clear hV
      generalize V3.heap.size = g_xb at *
      try go_wp2_with fail
      clear hHeld; refine hK.out _ _ ⟨(st.box 1 rfl).cell 0 rfl, (st.box 1 rfl).cell 3 rfl, (st.box 1 rfl).cell 4 rfl, (st.box 1 rfl).cell 5 rfl⟩ fun hHeld => ?_; clear hK K
      try simp only [Act.put, l1, l2, l3, l4, l5, l6]
      refine wpAnyH_ready (rs := [6, 15]) (by kernel_rfl) (by simp) (AllReadyH.cons rfl (fun K hK => ?_) (AllReadyH.cons rfl (fun K hK => ?_) (AllReadyH.nil)))
      · have fc0 := (st.box 1 rfl).f6; have fc1 := (st.box 0 rfl).f2
        have hcv := HCV.out _ _ (st.box 0 rfl)
        go_simp
        clear hcv
        try go_wp2_with fail
        clear hHeld fc0 fc1; refine hK.out _ _ ⟨(st.box 1 rfl).cell 0 rfl, (st.box 1 rfl).cell 3 rfl, (st.box 1 rfl).cell 4 rfl, (st.box 1 rfl).cell 5 rfl⟩ fun hHeld => ?_; clear hK K
        try simp only [Act.put, l1, l2, l3, l4, l5, l6]
        refine tq 11 ?_
        try simp only [Act.put, l1, l2, l3, l4, l5, l6]
        refine rd 15 fun K hK => ?_
        have fc0 := (st.box 1 rfl).f6; have fc1 := (st.box 0 rfl).f2
        go_simp
        refine callB st (TO.out _) ?_; clear st fc0 fc1; intro V5 st
        have fc0 := (st.box 1 rfl).f6; have fc1 := (st.box 0 rfl).f2
        try go_wp2_with fail
        clear hHeld fc0 fc1; refine hK.out _ _ ⟨(st.box 1 rfl).cell 0 rfl, (st.box 1 rfl).cell 3 rfl, (st.box 1 rfl).cell 4 rfl, (st.box 1 rfl).cell 5 rfl⟩ fun hHeld => ?_; clear hK K
        try simp only [Act.put, l1, l2, l3, l4, l5, l6]
        refine tq 16 ?_
        try simp only [Act.put, l1, l2, l3, l4, l5, l6]
        refine rd 17 fun K hK => ?_
        have fc0 := (st.box 1 rfl).f6; have fc1 := (st.box 0 rfl).f2
        go_simp
        refine callQ (TG.out _) ?_
        try go_wp2_with fail
        clear hHeld fc0 fc1; refine hK.out _ _ ⟨(st.box 1 rfl).cell 0 rfl, (st.box 1 rfl).cell 3 rfl, (st.box 1 rfl).cell 4 rfl, (st.box 1 rfl).cell 5 rfl⟩ fun hHeld => ?_; clear hK K
        try simp only [Act.put, l1, l2, l3, l4, l5, l6]
        refine tq 18 ?_
        try simp only [Act.put, l1, l2, l3, l4, l5, l6]
        refine wpAnyH_done (by kernel_rfl) ?_ _; clear hHeld
        have fc0 := (st.box 1 rfl).f6; have fc1 := (st.box 0 rfl).f2
        go_wp2
        go_ret
        exact ⟨ret_int HF.out, st.lo⟩
      · have fc0 := (st.box 1 rfl).f6; have fc1 := (st.box 0 rfl).f2
        go_simp
        refine callB st (TO.out _) ?_; clear st fc0 fc1; intro V5 st
        have fc0 := (st.box 1 rfl).f6; have fc1 := (st.box 0 rfl).f2
        try go_wp2_with fail
        clear hHeld fc0 fc1; refine hK.out _ _ ⟨(st.box 1 rfl).cell 0 rfl, (st.box 1 rfl).cell 3 rfl, (st.box 1 rfl).cell 4 rfl, (st.box 1 rfl).cell 5 rfl⟩ fun hHeld => ?_; clear hK K
        try simp only [Act.put, l1, l2, l3, l4, l5, l6]
        refine rd 6 fun K hK => ?_
        have fc0 := (st.box 1 rfl).f6; have fc1 := (st.box 0 rfl).f2
        have hcv := HCV.out _ _ (st.box 0 rfl)
        go_simp
        clear hcv
        try go_wp2_with fail
        clear hHeld fc0 fc1; refine hK.out _ _ ⟨(st.box 1 rfl).cell 0 rfl, (st.box 1 rfl).cell 3 rfl, (st.box 1 rfl).cell 4 rfl, (st.box 1 rfl).cell 5 rfl⟩ fun hHeld => ?_; clear hK K
        try simp only [Act.put, l1, l2, l3, l4, l5, l6]
        refine tq 11 ?_; refine tq 16 ?_
        try simp only [Act.put, l1, l2, l3, l4, l5, l6]
        refine rd 17 fun K hK => ?_
        have fc0 := (st.box 1 rfl).f6; have fc1 := (st.box 0 rfl).f2
        go_simp
        refine callQ (TG.out _) ?_
        try go_wp2_with fail
        clear hHeld fc0 fc1; refine hK.out _ _ ⟨(st.box 1 rfl).cell 0 rfl, (st.box 1 rfl).cell 3 rfl, (st.box 1 rfl).cell 4 rfl, (st.box 1 rfl).cell 5 rfl⟩ fun hHeld => ?_; clear hK K
        try simp only [Act.put, l1, l2, l3, l4, l5, l6]
        refine tq 18 ?_
        try simp only [Act.put, l1, l2, l3, l4, l5, l6]
        refine wpAnyH_done (by kernel_rfl) ?_ _; clear hHeld
        have fc0 := (st.box 1 rfl).f6; have fc1 := (st.box 0 rfl).f2
        go_wp2
        go_ret
        exact ⟨ret_int HF.out, st.lo⟩
    · have fc0 := (st.box 0 rfl).f6
      go_simp
      refine callB st (TO.out _) ?_; clear st fc0; intro V4 st
      have fc0 := (st.box 0 rfl).f6
      try go_wp2_with fail
      clear hHeld fc0; refine hK.out _ _ ⟨(st.box 0 rfl).cell 0 rfl, (st.box 0 rfl).cell 3 rfl, (st.box 0 rfl).cell 4 rfl, (st.box 0 rfl).cell 5 rfl⟩ fun hHeld => ?_; clear hK K
      try simp only [Act.put, l1, l2, l3, l4, l5, l6]
      refine rd 5 fun K hK => ?_
      have fc0 := (st.box 0 rfl).f6
      go_simp
      clear fc0
      replace st := st.alloc 5 [.int .u8 (fB.toNat : Int), .int .u8 (iB.toNat : Int)]
      replace st := st.name; obtain ⟨V5, hV, st⟩ := st; rw [hV]; clear hV
      generalize V4.heap.size = g_xb at *
      try go_wp2_with fail
      clear hHeld; refine hK.out _ _ ⟨(st.box 1 rfl).cell 0 rfl, (st.box 1 rfl).cell 3 rfl, (st.box 1 rfl).cell 4 rfl, (st.box 1 rfl).cell 5 rfl⟩ fun hHeld => ?_; clear hK K
      try simp only [Act.put, l1, l2, l3, l4, l5, l6]
      refine rd 6 fun K hK => ?_
      have fc0 := (st.box 1 rfl).f6; have fc1 := (st.box 0 rfl).f2
      have hcv := HCV.out _ _ (st.box 0 rfl)
      go_simp
      clear hcv
      try go_wp2_with fail
      clear hHeld fc0 fc1; refine hK.out _ _ ⟨(st.box 1 rfl).cell 0 rfl, (st.box 1 rfl).cell 3 rfl, (st.box 1 rfl).cell 4 rfl, (st.box 1 rfl).cell 5 rfl⟩ fun hHeld => ?_; clear hK K
      try simp only [Act.put, l1, l2, l3, l4, l5, l6]
      refine tq 11 ?_; refine tq 16 ?_
      try simp only [Act.put, l1, l2, l3, l4, l5, l6]
      refine rd 17 fun K hK => ?_
      have fc0 := (st.box 1 rfl).f6; have fc1 := (st.box 0 rfl).f2
      go_simp
      refine callQ (TG.out _) ?_
      try go_wp2_with fail
      clear hHeld fc0 fc1; refine hK.out _ _ ⟨(st.box 1 rfl).cell 0 rfl, (st.box 1 rfl).cell 3 rfl, (st.box 1 rfl).cell 4 rfl, (st.box 1 rfl).cell 5 rfl⟩ fun hHeld => ?_; clear hK K
      try simp only [Act.put, l1, l2, l3, l4, l5, l6]
      refine tq 18 ?_
      try simp only [Act.put, l1, l2, l3, l4, l5, l6]
      refine wpAnyH_done (by kernel_rfl) ?_ _; clear hHeld
      have fc0 := (st.box 1 rfl).f6; have fc1 := (st.box 0 rfl).f2
      go_wp2
      go_ret
      exact ⟨ret_int HF.out, st.lo⟩

set_option maxRecDepth 100000 in
set_option maxHeartbeats 4000000 in
theorem ref14Pack01 (s : St) (W : World) (h : Legal s) (ha : s.armed = false) (hh : s.home = true) : Gives Try.prog 14 #[.agg #[.int .i64 s.mode, .bool s.armed, .bool s.home, .int .i64 s.lat, .int .i64 s.lon, .int .i64 s.iso]] W (.int .u64 ((packN s : Nat) : Int)) := by
  have TL := fun (V : World) => ref14Legal s V
  simp only [(legal_iff s).2 h] at TL
  replace TL := Lib.hid TL
  have hp := packN_legal h
  have hl := (first_lt h).1
  obtain ⟨⟨m0, m1⟩, ⟨i0, i1⟩, _, _, _⟩ := id h
  have hfn : (firstN s : Int) = s.mode + 16 := by unfold firstN; rw [ha, hh]; simp only [Bool.false_eq_true, if_false, if_true]; omega
  obtain ⟨fB, hfB⟩ : ∃ b : UInt8, b.toNat = firstN s := ⟨UInt8.ofNat (firstN s), by rw [UInt8.toNat_ofNat']; omega⟩
  obtain ⟨iB, hiB⟩ : ∃ b : UInt8, b.toNat = s.iso.toNat := ⟨UInt8.ofNat s.iso.toNat, by rw [UInt8.toNat_ofNat']; omega⟩
  have k1 : IntKind.u8.wrap (s.mode + 16) = (fB.toNat : Int) := by rw [hfB, ← hfn]; simp [IntKind.wrap, IntKind.signed, IntKind.bits]; omega
  have k2 : IntKind.u8.wrap s.iso = (iB.toNat : Int) := by rw [hiB]; simp [IntKind.wrap, IntKind.signed, IntKind.bits]; omega
  have k3 : IntKind.u64.wrap s.lat = ((u64N s.lat : Nat) : Int) := by rw [u64_wrapI, u64N_cast]
  have k4 : IntKind.u64.wrap s.lon = ((u64N s.lon : Nat) : Int) := by rw [u64_wrapI, u64N_cast]
  have HF := Lib.hid (show ((getB (packT fB iB s.lat s.lon) : Nat) : Int) = ((packN s : Nat) : Int) from by rw [packT_get, hfB, hiB, hp]; rfl)
  have hz := packT_size fB iB s.lat s.lon
  have TG := Lib.hid (fun (V : World) => ref06Get (packT fB iB s.lat s.lon) V (by rw [hz]; unfold maxLen; omega))
  have TA := Lib.hid (fun (V : World) => ref06PutN3 (u64N s.lat) (u64N_lt _) 3 V)
  have TO := Lib.hid (fun (V : World) => ref06PutN3 (u64N s.lon) (u64N_lt _) 3 V)
  have z0 : (bs [fB, iB]).size = 2 := rfl
  have z1 : (putB (u64N s.lat) 3).size = 3 := putB_size _ _
  have z2 : (putB (u64N s.lon) 3).size = 3 := putB_size _ _
  have c1 : ¬ 9223372036854775807 < (bs [fB, iB]).size + (putB (u64N s.lat) 3).size := by omega
  have c2 : ¬ 9223372036854775807 < (bs [fB, iB]).size + (putB (u64N s.lat) 3).size + (putB (u64N s.lon) 3).size := by omega
  clear hz z0 z1 z2 hl hp hfn hfB hiB
  have HCV := Lib.hid (fun (V : World) (g : Nat) (x : Box 5 V g [.int .u8 (fB.toNat : Int), .int .u8 (iB.toNat : Int)]) => (show (convert 53 9 (.slice (some ⟨g, 0, none⟩) 2 2)).run Try.prog V = .ok (.string (bs [fB, iB])) V from by
    have hb : BRow V g [fB, iB] := ⟨x.lt, fun j hj => by
      refine ⟨?_, x.frozen j⟩
      match j, hj with
      | 0, _ => exact x.cell 0 rfl
      | 1, _ => rw [x.cell 1 rfl]; simp only [gd, b8v]; rfl⟩
    exact hb.string Try.underlying53 Try.underlying5 Try.underlying9 2))
  unfold packT at TG HF
  generalize u64N s.lat = xa at *
  generalize u64N s.lon = xo at *
  rw [ha, hh] at *
  clear h ha hh
  have st := Bs.in1 W 25 [.int .i64 s.mode, .bool false, .bool true, .int .i64 s.lat, .int .i64 s.lon, .int .i64 s.iso]
  go_enter Try.func14, Try.ntmps14
  have fc0 := (st.box 0 rfl).f6
  go_wp2_with fail; refine callB st (TL.out _) ?_; clear st fc0; intro V1 st
  have fc0 := (st.box 0 rfl).f6
  go_wp2_with fail
  clear fc0
  replace st := st.drew
  refine rh (fun w => w.cell? ⟨W.heap.size, 0, none⟩ = some (.int .i64 s.mode) ∧ w.cell? ⟨W.heap.size, 3, none⟩ = some (.int .i64 s.lat) ∧ w.cell? ⟨W.heap.size, 4, none⟩ = some (.int .i64 s.lon) ∧ w.cell? ⟨W.heap.size, 5, none⟩ = some (.int .i64 s.iso)) ⟨(st.box 0 rfl).cell 0 rfl, (st.box 0 rfl).cell 3 rfl, (st.box 0 rfl).cell 4 rfl, (st.box 0 rfl).cell 5 rfl⟩ fun hHeld => ?_
  generalize V1.drew = V2 at *
  refine tq 0 ?_; refine tq 1 ?_; refine tq 2 ?_; refine tq 3 ?_; refine tq 4 ?_; refine tq 7 ?_; refine tq 8 ?_; refine tq 9 ?_; refine tq 12 ?_; refine tq 13 ?_; refine tq 14 ?_
  try simp only [Act.put, l1, l2, l3, l4, l5, l6]
  refine wpAnyH_ready (rs := [5, 10]) (by kernel_rfl) (by simp) (AllReadyH.cons rfl (fun K hK => ?_) (AllReadyH.cons rfl (fun K hK => ?_) (AllReadyH.nil)))
  · have fc0 := (st.box 0 rfl).f6
    go_simp
    clear fc0
    replace st := st.alloc 5 [.int .u8 (fB.toNat : Int), .int .u8 (iB.toNat : Int)]
    replace st := st.name; obtain ⟨V3, hV, st⟩ := st; rw [hV]; clear hV
    generalize V2.heap.size = g_xb at *
    try go_wp2_with fail
    clear hHeld; refine hK.out _ _ ⟨(st.box 1 rfl).cell 0 rfl, (st.box 1 rfl).cell 3 rfl, (st.box 1 rfl).cell 4 rfl, (st.box 1 rfl).cell 5 rfl⟩ fun hHeld => ?_; clear hK K
    try simp only [Act.put, l1, l2, l3, l4, l5, l6]
    refine wpAnyH_ready (rs := [6, 10]) (by kernel_rfl) (by simp) (AllReadyH.cons rfl (fun K hK => ?_) (AllReadyH.cons rfl (fun K hK => ?_) (AllReadyH.nil)))
    · have fc0 := (st.box 1 rfl).f6; have fc1 := (st.box 0 rfl).f2
      have hcv := HCV.out _ _ (st.box 0 rfl)
      go_simp
      clear hcv
      try go_wp2_with fail
      clear hHeld fc0 fc1; refine hK.out _ _ ⟨(st.box 1 rfl).cell 0 rfl, (st.box 1 rfl).cell 3 rfl, (st.box 1 rfl).cell 4 rfl, (st.box 1 rfl).cell 5 rfl⟩ fun hHeld => ?_; clear hK K
      try simp only [Act.put, l1, l2, l3, l4, l5, l6]
      refine rd 10 fun K hK => ?_
      have fc0 := (st.box 1 rfl).f6; have fc1 := (st.box 0 rfl).f2
      go_simp
      refine callB st (TA.out _) ?_; clear st fc0 fc1; intro V4 st
      have fc0 := (st.box 1 rfl).f6; have fc1 := (st.box 0 rfl).f2
      try go_wp2_with fail
      clear hHeld fc0 fc1; refine hK.out _ _ ⟨(st.box 1 rfl).cell 0 rfl, (st.box 1 rfl).cell 3 rfl, (st.box 1 rfl).cell 4 rfl, (st.box 1 rfl).cell 5 rfl⟩ fun hHeld => ?_; clear hK K
      try simp only [Act.put, l1, l2, l3, l4, l5, l6]
      refine tq 11 ?_
      try simp only [Act.put, l1, l2, l3, l4, l5, l6]
      refine rd 15 fun K hK => ?_
      have fc0 := (st.box 1 rfl).f6; have fc1 := (st.box 0 rfl).f2
      go_simp
      refine callB st (TO.out _) ?_; clear st fc0 fc1; intro V5 st
      have fc0 := (st.box 1 rfl).f6; have fc1 := (st.box 0 rfl).f2
      try go_wp2_with fail
      clear hHeld fc0 fc1; refine hK.out _ _ ⟨(st.box 1 rfl).cell 0 rfl, (st.box 1 rfl).cell 3 rfl, (st.box 1 rfl).cell 4 rfl, (st.box 1 rfl).cell 5 rfl⟩ fun hHeld => ?_; clear hK K
      try simp only [Act.put, l1, l2, l3, l4, l5, l6]
      refine tq 16 ?_
      try simp only [Act.put, l1, l2, l3, l4, l5, l6]
      refine rd 17 fun K hK => ?_
      have fc0 := (st.box 1 rfl).f6; have fc1 := (st.box 0 rfl).f2
      go_simp
      refine callQ (TG.out _) ?_
      try go_wp2_with fail
      clear hHeld fc0 fc1; refine hK.out _ _ ⟨(st.box 1 rfl).cell 0 rfl, (st.box 1 rfl).cell 3 rfl, (st.box 1 rfl).cell 4 rfl, (st.box 1 rfl).cell 5 rfl⟩ fun hHeld => ?_; clear hK K
      try simp only [Act.put, l1, l2, l3, l4, l5, l6]
      refine tq 18 ?_
      try simp only [Act.put, l1, l2, l3, l4, l5, l6]
      refine wpAnyH_done (by kernel_rfl) ?_ _; clear hHeld
      have fc0 := (st.box 1 rfl).f6; have fc1 := (st.box 0 rfl).f2
      go_wp2
      go_ret
      exact ⟨ret_int HF.out, st.lo⟩
    · have fc0 := (st.box 1 rfl).f6; have fc1 := (st.box 0 rfl).f2
      go_simp
      refine callB st (TA.out _) ?_; clear st fc0 fc1; intro V4 st
      have fc0 := (st.box 1 rfl).f6; have fc1 := (st.box 0 rfl).f2
      try go_wp2_with fail
      clear hHeld fc0 fc1; refine hK.out _ _ ⟨(st.box 1 rfl).cell 0 rfl, (st.box 1 rfl).cell 3 rfl, (st.box 1 rfl).cell 4 rfl, (st.box 1 rfl).cell 5 rfl⟩ fun hHeld => ?_; clear hK K
      try simp only [Act.put, l1, l2, l3, l4, l5, l6]
      refine wpAnyH_ready (rs := [6, 15]) (by kernel_rfl) (by simp) (AllReadyH.cons rfl (fun K hK => ?_) (AllReadyH.cons rfl (fun K hK => ?_) (AllReadyH.nil)))
      · have fc0 := (st.box 1 rfl).f6; have fc1 := (st.box 0 rfl).f2
        have hcv := HCV.out _ _ (st.box 0 rfl)
        go_simp
        clear hcv
        try go_wp2_with fail
        clear hHeld fc0 fc1; refine hK.out _ _ ⟨(st.box 1 rfl).cell 0 rfl, (st.box 1 rfl).cell 3 rfl, (st.box 1 rfl).cell 4 rfl, (st.box 1 rfl).cell 5 rfl⟩ fun hHeld => ?_; clear hK K
        try simp only [Act.put, l1, l2, l3, l4, l5, l6]
        refine tq 11 ?_
        try simp only [Act.put, l1, l2, l3, l4, l5, l6]
        refine rd 15 fun K hK => ?_
        have fc0 := (st.box 1 rfl).f6; have fc1 := (st.box 0 rfl).f2
        go_simp
        refine callB st (TO.out _) ?_; clear st fc0 fc1; intro V5 st
        have fc0 := (st.box 1 rfl).f6; have fc1 := (st.box 0 rfl).f2
        try go_wp2_with fail
        clear hHeld fc0 fc1; refine hK.out _ _ ⟨(st.box 1 rfl).cell 0 rfl, (st.box 1 rfl).cell 3 rfl, (st.box 1 rfl).cell 4 rfl, (st.box 1 rfl).cell 5 rfl⟩ fun hHeld => ?_; clear hK K
        try simp only [Act.put, l1, l2, l3, l4, l5, l6]
        refine tq 16 ?_
        try simp only [Act.put, l1, l2, l3, l4, l5, l6]
        refine rd 17 fun K hK => ?_
        have fc0 := (st.box 1 rfl).f6; have fc1 := (st.box 0 rfl).f2
        go_simp
        refine callQ (TG.out _) ?_
        try go_wp2_with fail
        clear hHeld fc0 fc1; refine hK.out _ _ ⟨(st.box 1 rfl).cell 0 rfl, (st.box 1 rfl).cell 3 rfl, (st.box 1 rfl).cell 4 rfl, (st.box 1 rfl).cell 5 rfl⟩ fun hHeld => ?_; clear hK K
        try simp only [Act.put, l1, l2, l3, l4, l5, l6]
        refine tq 18 ?_
        try simp only [Act.put, l1, l2, l3, l4, l5, l6]
        refine wpAnyH_done (by kernel_rfl) ?_ _; clear hHeld
        have fc0 := (st.box 1 rfl).f6; have fc1 := (st.box 0 rfl).f2
        go_wp2
        go_ret
        exact ⟨ret_int HF.out, st.lo⟩
      · have fc0 := (st.box 1 rfl).f6; have fc1 := (st.box 0 rfl).f2
        go_simp
        refine callB st (TO.out _) ?_; clear st fc0 fc1; intro V5 st
        have fc0 := (st.box 1 rfl).f6; have fc1 := (st.box 0 rfl).f2
        try go_wp2_with fail
        clear hHeld fc0 fc1; refine hK.out _ _ ⟨(st.box 1 rfl).cell 0 rfl, (st.box 1 rfl).cell 3 rfl, (st.box 1 rfl).cell 4 rfl, (st.box 1 rfl).cell 5 rfl⟩ fun hHeld => ?_; clear hK K
        try simp only [Act.put, l1, l2, l3, l4, l5, l6]
        refine rd 6 fun K hK => ?_
        have fc0 := (st.box 1 rfl).f6; have fc1 := (st.box 0 rfl).f2
        have hcv := HCV.out _ _ (st.box 0 rfl)
        go_simp
        clear hcv
        try go_wp2_with fail
        clear hHeld fc0 fc1; refine hK.out _ _ ⟨(st.box 1 rfl).cell 0 rfl, (st.box 1 rfl).cell 3 rfl, (st.box 1 rfl).cell 4 rfl, (st.box 1 rfl).cell 5 rfl⟩ fun hHeld => ?_; clear hK K
        try simp only [Act.put, l1, l2, l3, l4, l5, l6]
        refine tq 11 ?_; refine tq 16 ?_
        try simp only [Act.put, l1, l2, l3, l4, l5, l6]
        refine rd 17 fun K hK => ?_
        have fc0 := (st.box 1 rfl).f6; have fc1 := (st.box 0 rfl).f2
        go_simp
        refine callQ (TG.out _) ?_
        try go_wp2_with fail
        clear hHeld fc0 fc1; refine hK.out _ _ ⟨(st.box 1 rfl).cell 0 rfl, (st.box 1 rfl).cell 3 rfl, (st.box 1 rfl).cell 4 rfl, (st.box 1 rfl).cell 5 rfl⟩ fun hHeld => ?_; clear hK K
        try simp only [Act.put, l1, l2, l3, l4, l5, l6]
        refine tq 18 ?_
        try simp only [Act.put, l1, l2, l3, l4, l5, l6]
        refine wpAnyH_done (by kernel_rfl) ?_ _; clear hHeld
        have fc0 := (st.box 1 rfl).f6; have fc1 := (st.box 0 rfl).f2
        go_wp2
        go_ret
        exact ⟨ret_int HF.out, st.lo⟩
  · have fc0 := (st.box 0 rfl).f6
    go_simp
    refine callB st (TA.out _) ?_; clear st fc0; intro V3 st
    have fc0 := (st.box 0 rfl).f6
    try go_wp2_with fail
    clear hHeld fc0; refine hK.out _ _ ⟨(st.box 0 rfl).cell 0 rfl, (st.box 0 rfl).cell 3 rfl, (st.box 0 rfl).cell 4 rfl, (st.box 0 rfl).cell 5 rfl⟩ fun hHeld => ?_; clear hK K
    try simp only [Act.put, l1, l2, l3, l4, l5, l6]
    refine wpAnyH_ready (rs := [5, 15]) (by kernel_rfl) (by simp) (AllReadyH.cons rfl (fun K hK => ?_) (AllReadyH.cons rfl (fun K hK => ?_) (AllReadyH.nil)))
    · have fc0 := (st.box 0 rfl).f6
      go_simp
      clear fc0
      replace st := st.alloc 5 [.int .u8 (fB.toNat : Int), .int .u8 (iB.toNat : Int)]
      replace st := st.name; obtain ⟨V4, hV, st⟩ := st; rw [hV]; clear hV
      generalize V3.heap.size = g_xb at *
      try go_wp2_with fail
      clear hHeld; refine hK.out _ _ ⟨(st.box 1 rfl).cell 0 rfl, (st.box 1 rfl).cell 3 rfl, (st.box 1 rfl).cell 4 rfl, (st.box 1 rfl).cell 5 rfl⟩ fun hHeld => ?_; clear hK K
      try simp only [Act.put, l1, l2, l3, l4, l5, l6]
      refine wpAnyH_ready (rs := [6, 15]) (by kernel_rfl) (by simp) (AllReadyH.cons rfl (fun K hK => ?_) (AllReadyH.cons rfl (fun K hK => ?_) (AllReadyH.nil)))
      · have fc0 := (st.box 1 rfl).f6; have fc1 := (st.box 0 rfl).f2
        have hcv := HCV.out _ _ (st.box 0 rfl)
        go_simp
        clear hcv
        try go_wp2_with fail
        clear hHeld fc0 fc1; refine hK.out _ _ ⟨(st.box 1 rfl).cell 0 rfl, (st.box 1 rfl).cell 3 rfl, (st.box 1 rfl).cell 4 rfl, (st.box 1 rfl).cell 5 rfl⟩ fun hHeld => ?_; clear hK K
        try simp only [Act.put, l1, l2, l3, l4, l5, l6]
        refine tq 11 ?_
        try simp only [Act.put, l1, l2, l3, l4, l5, l6]
        refine rd 15 fun K hK => ?_
        have fc0 := (st.box 1 rfl).f6; have fc1 := (st.box 0 rfl).f2
        go_simp
        refine callB st (TO.out _) ?_; clear st fc0 fc1; intro V5 st
        have fc0 := (st.box 1 rfl).f6; have fc1 := (st.box 0 rfl).f2
        try go_wp2_with fail
        clear hHeld fc0 fc1; refine hK.out _ _ ⟨(st.box 1 rfl).cell 0 rfl, (st.box 1 rfl).cell 3 rfl, (st.box 1 rfl).cell 4 rfl, (st.box 1 rfl).cell 5 rfl⟩ fun hHeld => ?_; clear hK K
        try simp only [Act.put, l1, l2, l3, l4, l5, l6]
        refine tq 16 ?_
        try simp only [Act.put, l1, l2, l3, l4, l5, l6]
        refine rd 17 fun K hK => ?_
        have fc0 := (st.box 1 rfl).f6; have fc1 := (st.box 0 rfl).f2
        go_simp
        refine callQ (TG.out _) ?_
        try go_wp2_with fail
        clear hHeld fc0 fc1; refine hK.out _ _ ⟨(st.box 1 rfl).cell 0 rfl, (st.box 1 rfl).cell 3 rfl, (st.box 1 rfl).cell 4 rfl, (st.box 1 rfl).cell 5 rfl⟩ fun hHeld => ?_; clear hK K
        try simp only [Act.put, l1, l2, l3, l4, l5, l6]
        refine tq 18 ?_
        try simp only [Act.put, l1, l2, l3, l4, l5, l6]
        refine wpAnyH_done (by kernel_rfl) ?_ _; clear hHeld
        have fc0 := (st.box 1 rfl).f6; have fc1 := (st.box 0 rfl).f2
        go_wp2
        go_ret
        exact ⟨ret_int HF.out, st.lo⟩
      · have fc0 := (st.box 1 rfl).f6; have fc1 := (st.box 0 rfl).f2
        go_simp
        refine callB st (TO.out _) ?_; clear st fc0 fc1; intro V5 st
        have fc0 := (st.box 1 rfl).f6; have fc1 := (st.box 0 rfl).f2
        try go_wp2_with fail
        clear hHeld fc0 fc1; refine hK.out _ _ ⟨(st.box 1 rfl).cell 0 rfl, (st.box 1 rfl).cell 3 rfl, (st.box 1 rfl).cell 4 rfl, (st.box 1 rfl).cell 5 rfl⟩ fun hHeld => ?_; clear hK K
        try simp only [Act.put, l1, l2, l3, l4, l5, l6]
        refine rd 6 fun K hK => ?_
        have fc0 := (st.box 1 rfl).f6; have fc1 := (st.box 0 rfl).f2
        have hcv := HCV.out _ _ (st.box 0 rfl)
        go_simp
        clear hcv
        try go_wp2_with fail
        clear hHeld fc0 fc1; refine hK.out _ _ ⟨(st.box 1 rfl).cell 0 rfl, (st.box 1 rfl).cell 3 rfl, (st.box 1 rfl).cell 4 rfl, (st.box 1 rfl).cell 5 rfl⟩ fun hHeld => ?_; clear hK K
        try simp only [Act.put, l1, l2, l3, l4, l5, l6]
        refine tq 11 ?_; refine tq 16 ?_
        try simp only [Act.put, l1, l2, l3, l4, l5, l6]
        refine rd 17 fun K hK => ?_
        have fc0 := (st.box 1 rfl).f6; have fc1 := (st.box 0 rfl).f2
        go_simp
        refine callQ (TG.out _) ?_
        try go_wp2_with fail
        clear hHeld fc0 fc1; refine hK.out _ _ ⟨(st.box 1 rfl).cell 0 rfl, (st.box 1 rfl).cell 3 rfl, (st.box 1 rfl).cell 4 rfl, (st.box 1 rfl).cell 5 rfl⟩ fun hHeld => ?_; clear hK K
        try simp only [Act.put, l1, l2, l3, l4, l5, l6]
        refine tq 18 ?_
        try simp only [Act.put, l1, l2, l3, l4, l5, l6]
        refine wpAnyH_done (by kernel_rfl) ?_ _; clear hHeld
        have fc0 := (st.box 1 rfl).f6; have fc1 := (st.box 0 rfl).f2
        go_wp2
        go_ret
        exact ⟨ret_int HF.out, st.lo⟩
    · have fc0 := (st.box 0 rfl).f6
      go_simp
      refine callB st (TO.out _) ?_; clear st fc0; intro V4 st
      have fc0 := (st.box 0 rfl).f6
      try go_wp2_with fail
      clear hHeld fc0; refine hK.out _ _ ⟨(st.box 0 rfl).cell 0 rfl, (st.box 0 rfl).cell 3 rfl, (st.box 0 rfl).cell 4 rfl, (st.box 0 rfl).cell 5 rfl⟩ fun hHeld => ?_; clear hK K
      try simp only [Act.put, l1, l2, l3, l4, l5, l6]
      refine rd 5 fun K hK => ?_
      have fc0 := (st.box 0 rfl).f6
      go_simp
      clear fc0
      replace st := st.alloc 5 [.int .u8 (fB.toNat : Int), .int .u8 (iB.toNat : Int)]
      replace st := st.name; obtain ⟨V5, hV, st⟩ := st; rw [hV]; clear hV
      generalize V4.heap.size = g_xb at *
      try go_wp2_with fail
      clear hHeld; refine hK.out _ _ ⟨(st.box 1 rfl).cell 0 rfl, (st.box 1 rfl).cell 3 rfl, (st.box 1 rfl).cell 4 rfl, (st.box 1 rfl).cell 5 rfl⟩ fun hHeld => ?_; clear hK K
      try simp only [Act.put, l1, l2, l3, l4, l5, l6]
      refine rd 6 fun K hK => ?_
      have fc0 := (st.box 1 rfl).f6; have fc1 := (st.box 0 rfl).f2
      have hcv := HCV.out _ _ (st.box 0 rfl)
      go_simp
      clear hcv
      try go_wp2_with fail
      clear hHeld fc0 fc1; refine hK.out _ _ ⟨(st.box 1 rfl).cell 0 rfl, (st.box 1 rfl).cell 3 rfl, (st.box 1 rfl).cell 4 rfl, (st.box 1 rfl).cell 5 rfl⟩ fun hHeld => ?_; clear hK K
      try simp only [Act.put, l1, l2, l3, l4, l5, l6]
      refine tq 11 ?_; refine tq 16 ?_
      try simp only [Act.put, l1, l2, l3, l4, l5, l6]
      refine rd 17 fun K hK => ?_
      have fc0 := (st.box 1 rfl).f6; have fc1 := (st.box 0 rfl).f2
      go_simp
      refine callQ (TG.out _) ?_
      try go_wp2_with fail
      clear hHeld fc0 fc1; refine hK.out _ _ ⟨(st.box 1 rfl).cell 0 rfl, (st.box 1 rfl).cell 3 rfl, (st.box 1 rfl).cell 4 rfl, (st.box 1 rfl).cell 5 rfl⟩ fun hHeld => ?_; clear hK K
      try simp only [Act.put, l1, l2, l3, l4, l5, l6]
      refine tq 18 ?_
      try simp only [Act.put, l1, l2, l3, l4, l5, l6]
      refine wpAnyH_done (by kernel_rfl) ?_ _; clear hHeld
      have fc0 := (st.box 1 rfl).f6; have fc1 := (st.box 0 rfl).f2
      go_wp2
      go_ret
      exact ⟨ret_int HF.out, st.lo⟩

set_option maxRecDepth 100000 in
set_option maxHeartbeats 4000000 in
theorem ref14Pack11 (s : St) (W : World) (h : Legal s) (ha : s.armed = true) (hh : s.home = true) : Gives Try.prog 14 #[.agg #[.int .i64 s.mode, .bool s.armed, .bool s.home, .int .i64 s.lat, .int .i64 s.lon, .int .i64 s.iso]] W (.int .u64 ((packN s : Nat) : Int)) := by
  have TL := fun (V : World) => ref14Legal s V
  simp only [(legal_iff s).2 h] at TL
  replace TL := Lib.hid TL
  have hp := packN_legal h
  have hl := (first_lt h).1
  obtain ⟨⟨m0, m1⟩, ⟨i0, i1⟩, _, _, _⟩ := id h
  have hfn : (firstN s : Int) = s.mode + 8 + 16 := by unfold firstN; rw [ha, hh]; simp only [Bool.false_eq_true, if_false, if_true]; omega
  obtain ⟨fB, hfB⟩ : ∃ b : UInt8, b.toNat = firstN s := ⟨UInt8.ofNat (firstN s), by rw [UInt8.toNat_ofNat']; omega⟩
  obtain ⟨iB, hiB⟩ : ∃ b : UInt8, b.toNat = s.iso.toNat := ⟨UInt8.ofNat s.iso.toNat, by rw [UInt8.toNat_ofNat']; omega⟩
  have k1 : IntKind.u8.wrap (s.mode + 8 + 16) = (fB.toNat : Int) := by rw [hfB, ← hfn]; simp [IntKind.wrap, IntKind.signed, IntKind.bits]; omega
  have k2 : IntKind.u8.wrap s.iso = (iB.toNat : Int) := by rw [hiB]; simp [IntKind.wrap, IntKind.signed, IntKind.bits]; omega
  have k3 : IntKind.u64.wrap s.lat = ((u64N s.lat : Nat) : Int) := by rw [u64_wrapI, u64N_cast]
  have k4 : IntKind.u64.wrap s.lon = ((u64N s.lon : Nat) : Int) := by rw [u64_wrapI, u64N_cast]
  have HF := Lib.hid (show ((getB (packT fB iB s.lat s.lon) : Nat) : Int) = ((packN s : Nat) : Int) from by rw [packT_get, hfB, hiB, hp]; rfl)
  have hz := packT_size fB iB s.lat s.lon
  have TG := Lib.hid (fun (V : World) => ref06Get (packT fB iB s.lat s.lon) V (by rw [hz]; unfold maxLen; omega))
  have TA := Lib.hid (fun (V : World) => ref06PutN3 (u64N s.lat) (u64N_lt _) 3 V)
  have TO := Lib.hid (fun (V : World) => ref06PutN3 (u64N s.lon) (u64N_lt _) 3 V)
  have z0 : (bs [fB, iB]).size = 2 := rfl
  have z1 : (putB (u64N s.lat) 3).size = 3 := putB_size _ _
  have z2 : (putB (u64N s.lon) 3).size = 3 := putB_size _ _
  have c1 : ¬ 9223372036854775807 < (bs [fB, iB]).size + (putB (u64N s.lat) 3).size := by omega
  have c2 : ¬ 9223372036854775807 < (bs [fB, iB]).size + (putB (u64N s.lat) 3).size + (putB (u64N s.lon) 3).size := by omega
  clear hz z0 z1 z2 hl hp hfn hfB hiB
  have HCV := Lib.hid (fun (V : World) (g : Nat) (x : Box 5 V g [.int .u8 (fB.toNat : Int), .int .u8 (iB.toNat : Int)]) => (show (convert 53 9 (.slice (some ⟨g, 0, none⟩) 2 2)).run Try.prog V = .ok (.string (bs [fB, iB])) V from by
    have hb : BRow V g [fB, iB] := ⟨x.lt, fun j hj => by
      refine ⟨?_, x.frozen j⟩
      match j, hj with
      | 0, _ => exact x.cell 0 rfl
      | 1, _ => rw [x.cell 1 rfl]; simp only [gd, b8v]; rfl⟩
    exact hb.string Try.underlying53 Try.underlying5 Try.underlying9 2))
  unfold packT at TG HF
  generalize u64N s.lat = xa at *
  generalize u64N s.lon = xo at *
  rw [ha, hh] at *
  clear h ha hh
  have st := Bs.in1 W 25 [.int .i64 s.mode, .bool true, .bool true, .int .i64 s.lat, .int .i64 s.lon, .int .i64 s.iso]
  go_enter Try.func14, Try.ntmps14
  have fc0 := (st.box 0 rfl).f6
  go_wp2_with fail; refine callB st (TL.out _) ?_; clear st fc0; intro V1 st
  have fc0 := (st.box 0 rfl).f6
  go_wp2_with fail
  clear fc0
  replace st := st.drew
  refine rh (fun w => w.cell? ⟨W.heap.size, 0, none⟩ = some (.int .i64 s.mode) ∧ w.cell? ⟨W.heap.size, 3, none⟩ = some (.int .i64 s.lat) ∧ w.cell? ⟨W.heap.size, 4, none⟩ = some (.int .i64 s.lon) ∧ w.cell? ⟨W.heap.size, 5, none⟩ = some (.int .i64 s.iso)) ⟨(st.box 0 rfl).cell 0 rfl, (st.box 0 rfl).cell 3 rfl, (st.box 0 rfl).cell 4 rfl, (st.box 0 rfl).cell 5 rfl⟩ fun hHeld => ?_
  generalize V1.drew = V2 at *
  refine tq 0 ?_; refine tq 1 ?_; refine tq 2 ?_; refine tq 3 ?_; refine tq 4 ?_; refine tq 7 ?_; refine tq 8 ?_; refine tq 9 ?_; refine tq 12 ?_; refine tq 13 ?_; refine tq 14 ?_
  try simp only [Act.put, l1, l2, l3, l4, l5, l6]
  refine wpAnyH_ready (rs := [5, 10]) (by kernel_rfl) (by simp) (AllReadyH.cons rfl (fun K hK => ?_) (AllReadyH.cons rfl (fun K hK => ?_) (AllReadyH.nil)))
  · have fc0 := (st.box 0 rfl).f6
    go_simp
    clear fc0
    replace st := st.alloc 5 [.int .u8 (fB.toNat : Int), .int .u8 (iB.toNat : Int)]
    replace st := st.name; obtain ⟨V3, hV, st⟩ := st; rw [hV]; clear hV
    generalize V2.heap.size = g_xb at *
    try go_wp2_with fail
    clear hHeld; refine hK.out _ _ ⟨(st.box 1 rfl).cell 0 rfl, (st.box 1 rfl).cell 3 rfl, (st.box 1 rfl).cell 4 rfl, (st.box 1 rfl).cell 5 rfl⟩ fun hHeld => ?_; clear hK K
    try simp only [Act.put, l1, l2, l3, l4, l5, l6]
    refine wpAnyH_ready (rs := [6, 10]) (by kernel_rfl) (by simp) (AllReadyH.cons rfl (fun K hK => ?_) (AllReadyH.cons rfl (fun K hK => ?_) (AllReadyH.nil)))
    · have fc0 := (st.box 1 rfl).f6; have fc1 := (st.box 0 rfl).f2
      have hcv := HCV.out _ _ (st.box 0 rfl)
      go_simp
      clear hcv
      try go_wp2_with fail
      clear hHeld fc0 fc1; refine hK.out _ _ ⟨(st.box 1 rfl).cell 0 rfl, (st.box 1 rfl).cell 3 rfl, (st.box 1 rfl).cell 4 rfl, (st.box 1 rfl).cell 5 rfl⟩ fun hHeld => ?_; clear hK K
      try simp only [Act.put, l1, l2, l3, l4, l5, l6]
      refine rd 10 fun K hK => ?_
      have fc0 := (st.box 1 rfl).f6; have fc1 := (st.box 0 rfl).f2
      go_simp
      refine callB st (TA.out _) ?_; clear st fc0 fc1; intro V4 st
      have fc0 := (st.box 1 rfl).f6; have fc1 := (st.box 0 rfl).f2
      try go_wp2_with fail
      clear hHeld fc0 fc1; refine hK.out _ _ ⟨(st.box 1 rfl).cell 0 rfl, (st.box 1 rfl).cell 3 rfl, (st.box 1 rfl).cell 4 rfl, (st.box 1 rfl).cell 5 rfl⟩ fun hHeld => ?_; clear hK K
      try simp only [Act.put, l1, l2, l3, l4, l5, l6]
      refine tq 11 ?_
      try simp only [Act.put, l1, l2, l3, l4, l5, l6]
      refine rd 15 fun K hK => ?_
      have fc0 := (st.box 1 rfl).f6; have fc1 := (st.box 0 rfl).f2
      go_simp
      refine callB st (TO.out _) ?_; clear st fc0 fc1; intro V5 st
      have fc0 := (st.box 1 rfl).f6; have fc1 := (st.box 0 rfl).f2
      try go_wp2_with fail
      clear hHeld fc0 fc1; refine hK.out _ _ ⟨(st.box 1 rfl).cell 0 rfl, (st.box 1 rfl).cell 3 rfl, (st.box 1 rfl).cell 4 rfl, (st.box 1 rfl).cell 5 rfl⟩ fun hHeld => ?_; clear hK K
      try simp only [Act.put, l1, l2, l3, l4, l5, l6]
      refine tq 16 ?_
      try simp only [Act.put, l1, l2, l3, l4, l5, l6]
      refine rd 17 fun K hK => ?_
      have fc0 := (st.box 1 rfl).f6; have fc1 := (st.box 0 rfl).f2
      go_simp
      refine callQ (TG.out _) ?_
      try go_wp2_with fail
      clear hHeld fc0 fc1; refine hK.out _ _ ⟨(st.box 1 rfl).cell 0 rfl, (st.box 1 rfl).cell 3 rfl, (st.box 1 rfl).cell 4 rfl, (st.box 1 rfl).cell 5 rfl⟩ fun hHeld => ?_; clear hK K
      try simp only [Act.put, l1, l2, l3, l4, l5, l6]
      refine tq 18 ?_
      try simp only [Act.put, l1, l2, l3, l4, l5, l6]
      refine wpAnyH_done (by kernel_rfl) ?_ _; clear hHeld
      have fc0 := (st.box 1 rfl).f6; have fc1 := (st.box 0 rfl).f2
      go_wp2
      go_ret
      exact ⟨ret_int HF.out, st.lo⟩
    · have fc0 := (st.box 1 rfl).f6; have fc1 := (st.box 0 rfl).f2
      go_simp
      refine callB st (TA.out _) ?_; clear st fc0 fc1; intro V4 st
      have fc0 := (st.box 1 rfl).f6; have fc1 := (st.box 0 rfl).f2
      try go_wp2_with fail
      clear hHeld fc0 fc1; refine hK.out _ _ ⟨(st.box 1 rfl).cell 0 rfl, (st.box 1 rfl).cell 3 rfl, (st.box 1 rfl).cell 4 rfl, (st.box 1 rfl).cell 5 rfl⟩ fun hHeld => ?_; clear hK K
      try simp only [Act.put, l1, l2, l3, l4, l5, l6]
      refine wpAnyH_ready (rs := [6, 15]) (by kernel_rfl) (by simp) (AllReadyH.cons rfl (fun K hK => ?_) (AllReadyH.cons rfl (fun K hK => ?_) (AllReadyH.nil)))
      · have fc0 := (st.box 1 rfl).f6; have fc1 := (st.box 0 rfl).f2
        have hcv := HCV.out _ _ (st.box 0 rfl)
        go_simp
        clear hcv
        try go_wp2_with fail
        clear hHeld fc0 fc1; refine hK.out _ _ ⟨(st.box 1 rfl).cell 0 rfl, (st.box 1 rfl).cell 3 rfl, (st.box 1 rfl).cell 4 rfl, (st.box 1 rfl).cell 5 rfl⟩ fun hHeld => ?_; clear hK K
        try simp only [Act.put, l1, l2, l3, l4, l5, l6]
        refine tq 11 ?_
        try simp only [Act.put, l1, l2, l3, l4, l5, l6]
        refine rd 15 fun K hK => ?_
        have fc0 := (st.box 1 rfl).f6; have fc1 := (st.box 0 rfl).f2
        go_simp
        refine callB st (TO.out _) ?_; clear st fc0 fc1; intro V5 st
        have fc0 := (st.box 1 rfl).f6; have fc1 := (st.box 0 rfl).f2
        try go_wp2_with fail
        clear hHeld fc0 fc1; refine hK.out _ _ ⟨(st.box 1 rfl).cell 0 rfl, (st.box 1 rfl).cell 3 rfl, (st.box 1 rfl).cell 4 rfl, (st.box 1 rfl).cell 5 rfl⟩ fun hHeld => ?_; clear hK K
        try simp only [Act.put, l1, l2, l3, l4, l5, l6]
        refine tq 16 ?_
        try simp only [Act.put, l1, l2, l3, l4, l5, l6]
        refine rd 17 fun K hK => ?_
        have fc0 := (st.box 1 rfl).f6; have fc1 := (st.box 0 rfl).f2
        go_simp
        refine callQ (TG.out _) ?_
        try go_wp2_with fail
        clear hHeld fc0 fc1; refine hK.out _ _ ⟨(st.box 1 rfl).cell 0 rfl, (st.box 1 rfl).cell 3 rfl, (st.box 1 rfl).cell 4 rfl, (st.box 1 rfl).cell 5 rfl⟩ fun hHeld => ?_; clear hK K
        try simp only [Act.put, l1, l2, l3, l4, l5, l6]
        refine tq 18 ?_
        try simp only [Act.put, l1, l2, l3, l4, l5, l6]
        refine wpAnyH_done (by kernel_rfl) ?_ _; clear hHeld
        have fc0 := (st.box 1 rfl).f6; have fc1 := (st.box 0 rfl).f2
        go_wp2
        go_ret
        exact ⟨ret_int HF.out, st.lo⟩
      · have fc0 := (st.box 1 rfl).f6; have fc1 := (st.box 0 rfl).f2
        go_simp
        refine callB st (TO.out _) ?_; clear st fc0 fc1; intro V5 st
        have fc0 := (st.box 1 rfl).f6; have fc1 := (st.box 0 rfl).f2
        try go_wp2_with fail
        clear hHeld fc0 fc1; refine hK.out _ _ ⟨(st.box 1 rfl).cell 0 rfl, (st.box 1 rfl).cell 3 rfl, (st.box 1 rfl).cell 4 rfl, (st.box 1 rfl).cell 5 rfl⟩ fun hHeld => ?_; clear hK K
        try simp only [Act.put, l1, l2, l3, l4, l5, l6]
        refine rd 6 fun K hK => ?_
        have fc0 := (st.box 1 rfl).f6; have fc1 := (st.box 0 rfl).f2
        have hcv := HCV.out _ _ (st.box 0 rfl)
        go_simp
        clear hcv
        try go_wp2_with fail
        clear hHeld fc0 fc1; refine hK.out _ _ ⟨(st.box 1 rfl).cell 0 rfl, (st.box 1 rfl).cell 3 rfl, (st.box 1 rfl).cell 4 rfl, (st.box 1 rfl).cell 5 rfl⟩ fun hHeld => ?_; clear hK K
        try simp only [Act.put, l1, l2, l3, l4, l5, l6]
        refine tq 11 ?_; refine tq 16 ?_
        try simp only [Act.put, l1, l2, l3, l4, l5, l6]
        refine rd 17 fun K hK => ?_
        have fc0 := (st.box 1 rfl).f6; have fc1 := (st.box 0 rfl).f2
        go_simp
        refine callQ (TG.out _) ?_
        try go_wp2_with fail
        clear hHeld fc0 fc1; refine hK.out _ _ ⟨(st.box 1 rfl).cell 0 rfl, (st.box 1 rfl).cell 3 rfl, (st.box 1 rfl).cell 4 rfl, (st.box 1 rfl).cell 5 rfl⟩ fun hHeld => ?_; clear hK K
        try simp only [Act.put, l1, l2, l3, l4, l5, l6]
        refine tq 18 ?_
        try simp only [Act.put, l1, l2, l3, l4, l5, l6]
        refine wpAnyH_done (by kernel_rfl) ?_ _; clear hHeld
        have fc0 := (st.box 1 rfl).f6; have fc1 := (st.box 0 rfl).f2
        go_wp2
        go_ret
        exact ⟨ret_int HF.out, st.lo⟩
  · have fc0 := (st.box 0 rfl).f6
    go_simp
    refine callB st (TA.out _) ?_; clear st fc0; intro V3 st
    have fc0 := (st.box 0 rfl).f6
    try go_wp2_with fail
    clear hHeld fc0; refine hK.out _ _ ⟨(st.box 0 rfl).cell 0 rfl, (st.box 0 rfl).cell 3 rfl, (st.box 0 rfl).cell 4 rfl, (st.box 0 rfl).cell 5 rfl⟩ fun hHeld => ?_; clear hK K
    try simp only [Act.put, l1, l2, l3, l4, l5, l6]
    refine wpAnyH_ready (rs := [5, 15]) (by kernel_rfl) (by simp) (AllReadyH.cons rfl (fun K hK => ?_) (AllReadyH.cons rfl (fun K hK => ?_) (AllReadyH.nil)))
    · have fc0 := (st.box 0 rfl).f6
      go_simp
      clear fc0
      replace st := st.alloc 5 [.int .u8 (fB.toNat : Int), .int .u8 (iB.toNat : Int)]
      replace st := st.name; obtain ⟨V4, hV, st⟩ := st; rw [hV]; clear hV
      generalize V3.heap.size = g_xb at *
      try go_wp2_with fail
      clear hHeld; refine hK.out _ _ ⟨(st.box 1 rfl).cell 0 rfl, (st.box 1 rfl).cell 3 rfl, (st.box 1 rfl).cell 4 rfl, (st.box 1 rfl).cell 5 rfl⟩ fun hHeld => ?_; clear hK K
      try simp only [Act.put, l1, l2, l3, l4, l5, l6]
      refine wpAnyH_ready (rs := [6, 15]) (by kernel_rfl) (by simp) (AllReadyH.cons rfl (fun K hK => ?_) (AllReadyH.cons rfl (fun K hK => ?_) (AllReadyH.nil)))
      · have fc0 := (st.box 1 rfl).f6; have fc1 := (st.box 0 rfl).f2
        have hcv := HCV.out _ _ (st.box 0 rfl)
        go_simp
        clear hcv
        try go_wp2_with fail
        clear hHeld fc0 fc1; refine hK.out _ _ ⟨(st.box 1 rfl).cell 0 rfl, (st.box 1 rfl).cell 3 rfl, (st.box 1 rfl).cell 4 rfl, (st.box 1 rfl).cell 5 rfl⟩ fun hHeld => ?_; clear hK K
        try simp only [Act.put, l1, l2, l3, l4, l5, l6]
        refine tq 11 ?_
        try simp only [Act.put, l1, l2, l3, l4, l5, l6]
        refine rd 15 fun K hK => ?_
        have fc0 := (st.box 1 rfl).f6; have fc1 := (st.box 0 rfl).f2
        go_simp
        refine callB st (TO.out _) ?_; clear st fc0 fc1; intro V5 st
        have fc0 := (st.box 1 rfl).f6; have fc1 := (st.box 0 rfl).f2
        try go_wp2_with fail
        clear hHeld fc0 fc1; refine hK.out _ _ ⟨(st.box 1 rfl).cell 0 rfl, (st.box 1 rfl).cell 3 rfl, (st.box 1 rfl).cell 4 rfl, (st.box 1 rfl).cell 5 rfl⟩ fun hHeld => ?_; clear hK K
        try simp only [Act.put, l1, l2, l3, l4, l5, l6]
        refine tq 16 ?_
        try simp only [Act.put, l1, l2, l3, l4, l5, l6]
        refine rd 17 fun K hK => ?_
        have fc0 := (st.box 1 rfl).f6; have fc1 := (st.box 0 rfl).f2
        go_simp
        refine callQ (TG.out _) ?_
        try go_wp2_with fail
        clear hHeld fc0 fc1; refine hK.out _ _ ⟨(st.box 1 rfl).cell 0 rfl, (st.box 1 rfl).cell 3 rfl, (st.box 1 rfl).cell 4 rfl, (st.box 1 rfl).cell 5 rfl⟩ fun hHeld => ?_; clear hK K
        try simp only [Act.put, l1, l2, l3, l4, l5, l6]
        refine tq 18 ?_
        try simp only [Act.put, l1, l2, l3, l4, l5, l6]
        refine wpAnyH_done (by kernel_rfl) ?_ _; clear hHeld
        have fc0 := (st.box 1 rfl).f6; have fc1 := (st.box 0 rfl).f2
        go_wp2
        go_ret
        exact ⟨ret_int HF.out, st.lo⟩
      · have fc0 := (st.box 1 rfl).f6; have fc1 := (st.box 0 rfl).f2
        go_simp
        refine callB st (TO.out _) ?_; clear st fc0 fc1; intro V5 st
        have fc0 := (st.box 1 rfl).f6; have fc1 := (st.box 0 rfl).f2
        try go_wp2_with fail
        clear hHeld fc0 fc1; refine hK.out _ _ ⟨(st.box 1 rfl).cell 0 rfl, (st.box 1 rfl).cell 3 rfl, (st.box 1 rfl).cell 4 rfl, (st.box 1 rfl).cell 5 rfl⟩ fun hHeld => ?_; clear hK K
        try simp only [Act.put, l1, l2, l3, l4, l5, l6]
        refine rd 6 fun K hK => ?_
        have fc0 := (st.box 1 rfl).f6; have fc1 := (st.box 0 rfl).f2
        have hcv := HCV.out _ _ (st.box 0 rfl)
        go_simp
        clear hcv
        try go_wp2_with fail
        clear hHeld fc0 fc1; refine hK.out _ _ ⟨(st.box 1 rfl).cell 0 rfl, (st.box 1 rfl).cell 3 rfl, (st.box 1 rfl).cell 4 rfl, (st.box 1 rfl).cell 5 rfl⟩ fun hHeld => ?_; clear hK K
        try simp only [Act.put, l1, l2, l3, l4, l5, l6]
        refine tq 11 ?_; refine tq 16 ?_
        try simp only [Act.put, l1, l2, l3, l4, l5, l6]
        refine rd 17 fun K hK => ?_
        have fc0 := (st.box 1 rfl).f6; have fc1 := (st.box 0 rfl).f2
        go_simp
        refine callQ (TG.out _) ?_
        try go_wp2_with fail
        clear hHeld fc0 fc1; refine hK.out _ _ ⟨(st.box 1 rfl).cell 0 rfl, (st.box 1 rfl).cell 3 rfl, (st.box 1 rfl).cell 4 rfl, (st.box 1 rfl).cell 5 rfl⟩ fun hHeld => ?_; clear hK K
        try simp only [Act.put, l1, l2, l3, l4, l5, l6]
        refine tq 18 ?_
        try simp only [Act.put, l1, l2, l3, l4, l5, l6]
        refine wpAnyH_done (by kernel_rfl) ?_ _; clear hHeld
        have fc0 := (st.box 1 rfl).f6; have fc1 := (st.box 0 rfl).f2
        go_wp2
        go_ret
        exact ⟨ret_int HF.out, st.lo⟩
    · have fc0 := (st.box 0 rfl).f6
      go_simp
      refine callB st (TO.out _) ?_; clear st fc0; intro V4 st
      have fc0 := (st.box 0 rfl).f6
      try go_wp2_with fail
      clear hHeld fc0; refine hK.out _ _ ⟨(st.box 0 rfl).cell 0 rfl, (st.box 0 rfl).cell 3 rfl, (st.box 0 rfl).cell 4 rfl, (st.box 0 rfl).cell 5 rfl⟩ fun hHeld => ?_; clear hK K
      try simp only [Act.put, l1, l2, l3, l4, l5, l6]
      refine rd 5 fun K hK => ?_
      have fc0 := (st.box 0 rfl).f6
      go_simp
      clear fc0
      replace st := st.alloc 5 [.int .u8 (fB.toNat : Int), .int .u8 (iB.toNat : Int)]
      replace st := st.name; obtain ⟨V5, hV, st⟩ := st; rw [hV]; clear hV
      generalize V4.heap.size = g_xb at *
      try go_wp2_with fail
      clear hHeld; refine hK.out _ _ ⟨(st.box 1 rfl).cell 0 rfl, (st.box 1 rfl).cell 3 rfl, (st.box 1 rfl).cell 4 rfl, (st.box 1 rfl).cell 5 rfl⟩ fun hHeld => ?_; clear hK K
      try simp only [Act.put, l1, l2, l3, l4, l5, l6]
      refine rd 6 fun K hK => ?_
      have fc0 := (st.box 1 rfl).f6; have fc1 := (st.box 0 rfl).f2
      have hcv := HCV.out _ _ (st.box 0 rfl)
      go_simp
      clear hcv
      try go_wp2_with fail
      clear hHeld fc0 fc1; refine hK.out _ _ ⟨(st.box 1 rfl).cell 0 rfl, (st.box 1 rfl).cell 3 rfl, (st.box 1 rfl).cell 4 rfl, (st.box 1 rfl).cell 5 rfl⟩ fun hHeld => ?_; clear hK K
      try simp only [Act.put, l1, l2, l3, l4, l5, l6]
      refine tq 11 ?_; refine tq 16 ?_
      try simp only [Act.put, l1, l2, l3, l4, l5, l6]
      refine rd 17 fun K hK => ?_
      have fc0 := (st.box 1 rfl).f6; have fc1 := (st.box 0 rfl).f2
      go_simp
      refine callQ (TG.out _) ?_
      try go_wp2_with fail
      clear hHeld fc0 fc1; refine hK.out _ _ ⟨(st.box 1 rfl).cell 0 rfl, (st.box 1 rfl).cell 3 rfl, (st.box 1 rfl).cell 4 rfl, (st.box 1 rfl).cell 5 rfl⟩ fun hHeld => ?_; clear hK K
      try simp only [Act.put, l1, l2, l3, l4, l5, l6]
      refine tq 18 ?_
      try simp only [Act.put, l1, l2, l3, l4, l5, l6]
      refine wpAnyH_done (by kernel_rfl) ?_ _; clear hHeld
      have fc0 := (st.box 1 rfl).f6; have fc1 := (st.box 0 rfl).f2
      go_wp2
      go_ret
      exact ⟨ret_int HF.out, st.lo⟩

theorem ref14Pack (s : St) (W : World) : Gives Try.prog 14 #[.agg #[.int .i64 s.mode, .bool s.armed, .bool s.home, .int .i64 s.lat, .int .i64 s.lon, .int .i64 s.iso]] W (.int .u64 ((packN s : Nat) : Int)) := by
  by_cases h : Legal s
  · cases ha : s.armed
    · cases hh : s.home
      · have := ref14Pack00 s W h ha hh; rwa [ha, hh] at this
      · have := ref14Pack01 s W h ha hh; rwa [ha, hh] at this
    · cases hh : s.home
      · have := ref14Pack10 s W h ha hh; rwa [ha, hh] at this
      · have := ref14Pack11 s W h ha hh; rwa [ha, hh] at this
  · exact ref14PackNot s W (not_legal h)

end Go.Proofs.Ytkdadjojahfmeaa

/- CommandBack's walk where the craft was armed: contracts only. -/
import Derived.Test.YtdfacpppmfoiiaaCmdLaw
import Derived.Test.YtdfacpppmfoiiaaCmdGo
import Derived.Deep.RegionHeld3
import Derived.WalkLawsBesides
import Derived.WalkSpells
import Derived.IntWalk
import Derived.Lib.Hide
import Derived.Test.YtdfacpppmfoiiaaBox
namespace Go.Proofs.Ytdfacpppmfoiiaa
open Go.RowKit
set_option linter.unusedVariables false
set_option linter.unusedSimpArgs false

set_option maxRecDepth 100000 in
set_option maxHeartbeats 8000000 in
theorem back_yes (s : St) (n : UInt8) (W : World) (hs : s.ok) (hl : Legal s) (hf : fitsB s = true) (h1 : deltaE s ⟨2, 0, 0, 0⟩ = 0) (h2 : deltaE (deltaS s ⟨2, 0, 0, 0⟩) ⟨3, 0, 0, 0⟩ = 0) (hv : deltaS (deltaS s ⟨2, 0, 0, 0⟩) ⟨3, 0, 0, 0⟩ = s) :
    Calls Try.prog 6 #[.agg #[.int .i64 s.mode, .bool s.armed, .bool s.home, .int .i64 s.lat, .int .i64 s.lon, .int .i64 s.iso], .int .u8 (n.toNat : Int)] W fun e W' => e = .returned (.bool true) ∧ Below W.heap.size W W' := by
  have TI := Lib.hid (fun (V : World) => law16Its s V)
  have TL := Lib.hid (fun (V : World) => (show Calls Try.prog 10 #[.agg #[.int .i64 s.mode, .bool s.armed, .bool s.home, .int .i64 s.lat, .int .i64 s.lon, .int .i64 s.iso]] V fun e W' => e = .returned (.bool true) ∧ Below V.heap.size V W' from by have h := ref14Legal s V; rwa [(legal_iff s).2 hl] at h))
  have TF := Lib.hid (fun (V : World) => (show Calls Try.prog 16 #[.agg #[.int .i64 s.mode, .bool s.armed, .bool s.home, .int .i64 s.lat, .int .i64 s.lon, .int .i64 s.iso]] V fun e W' => e = .returned (.bool true) ∧ Below V.heap.size V W' from by have h := ref16Fits s V; rwa [hf] at h))
  have hlt := Nat.mod_lt n.toNat (show 4 > 0 by decide)
  obtain ⟨j, hj⟩ : ∃ j, n.toNat % 4 = j := ⟨_, rfl⟩
  have hb : (wrap64 (n.toNat : Int)).tmod 4 = (j : Int) := by rw [w64_u8, Int.tmod_eq_emod_of_nonneg (by omega)]; omega
  have hj4 : j < 4 := by omega
  clear hlt hj
  have hI : sensor 0 = true ∧ sensor 1 = true ∧ sensor 2 = true ∧ sensor 3 = true := ⟨rfl, rfl, rfl, rfl⟩
  have lA := delta_legal ⟨2, 0, 0, 0⟩ hl
  have T1 := Lib.hid (fun (V : World) => own16Delta s ⟨2, 0, 0, 0⟩ V hl ⟨by decide, by decide, by show (0 : Nat) < 2 ^ 64; decide, by show (0 : Nat) < 2 ^ 64; decide⟩)
  have T2 := Lib.hid (fun (V : World) => own16Delta (deltaS s ⟨2, 0, 0, 0⟩) ⟨3, 0, 0, 0⟩ V lA ⟨by decide, by decide, by show (0 : Nat) < 2 ^ 64; decide, by show (0 : Nat) < 2 ^ 64; decide⟩)
  rw [h2] at T2
  rw [h1] at T1
  clear lA h1 h2
  generalize deltaS s ⟨2, 0, 0, 0⟩ = u at *
  generalize deltaS u ⟨3, 0, 0, 0⟩ = v at *
  obtain ⟨um, ua, uh, ul, uo, ui⟩ := u
  rw [hv] at T2
  clear hv
  dsimp only at T1 T2
  have hB : Below W.heap.size W (W.alloc (.cells #[.int .i64 s.mode, .bool s.armed, .bool s.home, .int .i64 s.lat, .int .i64 s.lon, .int .i64 s.iso] 23)) := ((Below.refl _ _).alloc (Nat.le_refl _) _)
  have xs := (Box.new 23 W [.int .i64 s.mode, .bool s.armed, .bool s.home, .int .i64 s.lat, .int .i64 s.lon, .int .i64 s.iso])
  go_enter Try.func6, Try.ntmps6
  obtain ⟨xs0, xsz0, xs1, xsz1, xs2, xsz2, xs3, xsz3, xs4, xsz4, xs5, xsz5⟩ := xs.f6
  go_wp2_with fail
  refine (TI.out _).mono ?_
  rintro e V1 ⟨rfl, hk⟩
  clear xs0 xsz0 xs1 xsz1 xs2 xsz2 xs3 xsz3 xs4 xsz4 xs5 xsz5
  replace hB := below_seq hB hk
  replace xs := xs.seq hk
  clear hk
  obtain ⟨xs0, xsz0, xs1, xsz1, xs2, xsz2, xs3, xsz3, xs4, xsz4, xs5, xsz5⟩ := xs.f6
  go_wp2_with fail
  refine (TL.out _).mono ?_
  rintro e V2 ⟨rfl, hk⟩
  clear xs0 xsz0 xs1 xsz1 xs2 xsz2 xs3 xsz3 xs4 xsz4 xs5 xsz5
  replace hB := below_seq hB hk
  replace xs := xs.seq hk
  clear hk
  obtain ⟨xs0, xsz0, xs1, xsz1, xs2, xsz2, xs3, xsz3, xs4, xsz4, xs5, xsz5⟩ := xs.f6
  go_wp2_with fail
  refine (TI.out _).mono ?_
  rintro e V3 ⟨rfl, hk⟩
  clear xs0 xsz0 xs1 xsz1 xs2 xsz2 xs3 xsz3 xs4 xsz4 xs5 xsz5
  replace hB := below_seq hB hk
  replace xs := xs.seq hk
  clear hk
  obtain ⟨xs0, xsz0, xs1, xsz1, xs2, xsz2, xs3, xsz3, xs4, xsz4, xs5, xsz5⟩ := xs.f6
  go_wp2_with fail
  refine (TF.out _).mono ?_
  rintro e V4 ⟨rfl, hk⟩
  clear xs0 xsz0 xs1 xsz1 xs2 xsz2 xs3 xsz3 xs4 xsz4 xs5 xsz5
  replace hB := below_seq hB hk
  replace xs := xs.seq hk
  clear hk
  obtain ⟨xs0, xsz0, xs1, xsz1, xs2, xsz2, xs3, xsz3, xs4, xsz4, xs5, xsz5⟩ := xs.f6
  go_wp2_with fail
  refine (shown16 _).mono ?_
  rintro e V5 ⟨rfl, hk⟩
  clear xs0 xsz0 xs1 xsz1 xs2 xsz2 xs3 xsz3 xs4 xsz4 xs5 xsz5
  replace hB := below_seq hB hk
  replace xs := xs.seq hk
  clear hk
  obtain ⟨xs0, xsz0, xs1, xsz1, xs2, xsz2, xs3, xsz3, xs4, xsz4, xs5, xsz5⟩ := xs.f6
  go_wp2_with fail
  refine (T1.out _).mono ?_
  rintro e V6 ⟨rfl, hk⟩
  clear xs0 xsz0 xs1 xsz1 xs2 xsz2 xs3 xsz3 xs4 xsz4 xs5 xsz5
  replace hB := below_seq hB hk
  replace xs := xs.seq hk
  clear hk
  have xa := Box.new 23 V6 [.int .i64 um, .bool ua, .bool uh, .int .i64 ul, .int .i64 uo, .int .i64 ui]
  have ne_xa_xs : V6.heap.size ≠ W.heap.size := Nat.ne_of_gt xs.lt
  have le_xa : W.heap.size ≤ V6.heap.size := hB.size
  replace xs := xs.alloc (.cells #[.int .i64 um, .bool ua, .bool uh, .int .i64 ul, .int .i64 uo, .int .i64 ui] 23)
  replace hB := hB.alloc hB.size (.cells #[.int .i64 um, .bool ua, .bool uh, .int .i64 ul, .int .i64 uo, .int .i64 ui] 23)
  obtain ⟨xa0, xaz0, xa1, xaz1, xa2, xaz2, xa3, xaz3, xa4, xaz4, xa5, xaz5⟩ := xa.f6
  go_wp2_with fail
  refine (T2.out _).mono ?_
  rintro e V7 ⟨rfl, hk⟩
  clear xa0 xaz0 xa1 xaz1 xa2 xaz2 xa3 xaz3 xa4 xaz4 xa5 xaz5
  replace hB := below_seq hB hk
  replace xs := xs.seq hk
  replace xa := xa.seq hk
  clear hk
  have xb := Box.new 23 V7 [.int .i64 s.mode, .bool s.armed, .bool s.home, .int .i64 s.lat, .int .i64 s.lon, .int .i64 s.iso]
  have ne_xb_xs : V7.heap.size ≠ W.heap.size := Nat.ne_of_gt xs.lt
  have ne_xb_xa : V7.heap.size ≠ V6.heap.size := Nat.ne_of_gt xa.lt
  have le_xb : W.heap.size ≤ V7.heap.size := hB.size
  replace xs := xs.alloc (.cells #[.int .i64 s.mode, .bool s.armed, .bool s.home, .int .i64 s.lat, .int .i64 s.lon, .int .i64 s.iso] 23)
  replace xa := xa.alloc (.cells #[.int .i64 s.mode, .bool s.armed, .bool s.home, .int .i64 s.lat, .int .i64 s.lon, .int .i64 s.iso] 23)
  replace hB := hB.alloc hB.size (.cells #[.int .i64 s.mode, .bool s.armed, .bool s.home, .int .i64 s.lat, .int .i64 s.lon, .int .i64 s.iso] 23)
  obtain ⟨xs0, xsz0, xs1, xsz1, xs2, xsz2, xs3, xsz3, xs4, xsz4, xs5, xsz5⟩ := xs.f6
  obtain ⟨xb0, xbz0, xb1, xbz1, xb2, xbz2, xb3, xbz3, xb4, xbz4, xb5, xbz5⟩ := xb.f6
  clear T1 T2 TI TL TF
  match j, hj4 with
  | 0, _ =>
    have hb : (wrap64 (n.toNat : Int)).tmod 4 = 0 := hb
    have hs1 : sensor 0 = true := rfl
    have IA := iso_of hl.i hs1
    obtain ⟨b1, b2, b3⟩ := bits_iso hl.i 0 (by decide)
    rw [show ((2 : Int) ^ 0) = 1 from rfl] at b1 b2 b3
    have hE5 : deltaE s ⟨5, 0, 0, 0⟩ = if isIso s.iso 0 = false ∧ (soundN s.iso : Int) - 1 < needsN s.mode then 24 else 0 := by show isoE s 0 = _; unfold isoE; rw [hs1, if_neg (by decide)]; rfl
    have lC := delta_legal ⟨5, 0, 0, 0⟩ hl
    have hE6 : ∀ w : St, deltaE w ⟨6, 0, 0, 0⟩ = 0 := fun w => by show (if sensor 0 = false then 1 else 0) = _; rw [hs1, if_neg (by decide)]
    cases hi : isIso s.iso 0 with
    | false =>
      rw [hi] at b1
      by_cases hn : (soundN s.iso : Int) - 1 < needsN s.mode
      · rw [hi, if_pos ⟨rfl, hn⟩] at hE5
        have hR := delta_err (s := s) (c := ⟨5, 0, 0, 0⟩) (by rw [hE5]; decide)
        have T3 := Lib.hid (fun (V : World) => (show Calls Try.prog 13 #[.agg #[.int .i64 s.mode, .bool s.armed, .bool s.home, .int .i64 s.lat, .int .i64 s.lon, .int .i64 s.iso], .agg #[.int .i64 5, .int .i64 0, .float .f64 0, .float .f64 0]] V fun e W' => e = .returned (.tuple #[.agg #[.int .i64 s.mode, .bool s.armed, .bool s.home, .int .i64 s.lat, .int .i64 s.lon, .int .i64 s.iso], .int .i64 24]) ∧ Below V.heap.size V W' from by have h := own16Delta s ⟨5, 0, 0, 0⟩ V hl ⟨by decide, by decide, by show (0 : Nat) < 2 ^ 64; decide, by show (0 : Nat) < 2 ^ 64; decide⟩; rw [hE5, hR] at h; exact h))
        have T4 := Lib.hid (fun (V : World) => own16Delta s ⟨6, 0, 0, 0⟩ V hl ⟨by decide, by decide, by show (0 : Nat) < 2 ^ 64; decide, by show (0 : Nat) < 2 ^ 64; decide⟩)
        rw [hE6] at T4
        generalize deltaS s ⟨6, 0, 0, 0⟩ = w at *
        clear hE5 hE6 lC IA b1 b2 b3 hi hs1 hI hl hR hn
        obtain ⟨wm, wa, wh, wl, wo, wi⟩ := w
        dsimp only at T4
        go_wp2_with fail
        refine (T3.out _).mono ?_
        rintro e V8 ⟨rfl, hk⟩
        clear xs0 xsz0 xs1 xsz1 xs2 xsz2 xs3 xsz3 xs4 xsz4 xs5 xsz5 xb0 xbz0 xb1 xbz1 xb2 xbz2 xb3 xbz3 xb4 xbz4 xb5 xbz5
        replace hB := below_seq hB hk
        replace xs := xs.seq hk
        replace xb := xb.seq hk
        clear hk
        have xc := Box.new 23 V8 [.int .i64 s.mode, .bool s.armed, .bool s.home, .int .i64 s.lat, .int .i64 s.lon, .int .i64 s.iso]
        have ne_xc_xs : V8.heap.size ≠ W.heap.size := Nat.ne_of_gt xs.lt
        have le_xc : W.heap.size ≤ V8.heap.size := hB.size
        replace xs := xs.alloc (.cells #[.int .i64 s.mode, .bool s.armed, .bool s.home, .int .i64 s.lat, .int .i64 s.lon, .int .i64 s.iso] 23)
        replace hB := hB.alloc hB.size (.cells #[.int .i64 s.mode, .bool s.armed, .bool s.home, .int .i64 s.lat, .int .i64 s.lon, .int .i64 s.iso] 23)
        obtain ⟨xc0, xcz0, xc1, xcz1, xc2, xcz2, xc3, xcz3, xc4, xcz4, xc5, xcz5⟩ := xc.f6
        go_wp2_with fail
        refine (T4.out _).mono ?_
        rintro e V9 ⟨rfl, hk⟩
        clear xc0 xcz0 xc1 xcz1 xc2 xcz2 xc3 xcz3 xc4 xcz4 xc5 xcz5
        replace hB := below_seq hB hk
        replace xs := xs.seq hk
        replace xc := xc.seq hk
        clear hk
        have xd := Box.new 23 V9 [.int .i64 wm, .bool wa, .bool wh, .int .i64 wl, .int .i64 wo, .int .i64 wi]
        have ne_xd_xs : V9.heap.size ≠ W.heap.size := Nat.ne_of_gt xs.lt
        have le_xd : W.heap.size ≤ V9.heap.size := hB.size
        replace xs := xs.alloc (.cells #[.int .i64 wm, .bool wa, .bool wh, .int .i64 wl, .int .i64 wo, .int .i64 wi] 23)
        replace hB := hB.alloc hB.size (.cells #[.int .i64 wm, .bool wa, .bool wh, .int .i64 wl, .int .i64 wo, .int .i64 wi] 23)
        obtain ⟨xs0, xsz0, xs1, xsz1, xs2, xsz2, xs3, xsz3, xs4, xsz4, xs5, xsz5⟩ := xs.f6
        obtain ⟨xd0, xdz0, xd1, xdz1, xd2, xdz2, xd3, xdz3, xd4, xdz4, xd5, xdz5⟩ := xd.f6
        go_wp2_with fail
        clear xs0 xsz0 xs1 xsz1 xs2 xsz2 xs3 xsz3 xs4 xsz4 xs5 xsz5 xd0 xdz0 xd1 xdz1 xd2 xdz2 xd3 xdz3 xd4 xdz4 xd5 xdz5
        generalize (V9.alloc (.cells #[.int .i64 wm, .bool wa, .bool wh, .int .i64 wl, .int .i64 wo, .int .i64 wi] 23)) = V10 at *
        replace hB := hB.drew
        replace xs := xs.drew
        replace xd := xd.drew
        refine wp_region_held_drew (S := fun w' => w'.cell? ⟨W.heap.size, 0, none⟩ = some (.int .i64 s.mode) ∧ w'.cell? ⟨W.heap.size, 1, none⟩ = some (.bool s.armed) ∧ w'.cell? ⟨W.heap.size, 2, none⟩ = some (.bool s.home) ∧ w'.cell? ⟨W.heap.size, 3, none⟩ = some (.int .i64 s.lat) ∧ w'.cell? ⟨W.heap.size, 4, none⟩ = some (.int .i64 s.lon) ∧ w'.cell? ⟨W.heap.size, 5, none⟩ = some (.int .i64 s.iso) ∧ w'.cell? ⟨V9.heap.size, 0, none⟩ = some (.int .i64 wm) ∧ w'.cell? ⟨V9.heap.size, 1, none⟩ = some (.bool wa) ∧ w'.cell? ⟨V9.heap.size, 2, none⟩ = some (.bool wh) ∧ w'.cell? ⟨V9.heap.size, 3, none⟩ = some (.int .i64 wl) ∧ w'.cell? ⟨V9.heap.size, 4, none⟩ = some (.int .i64 wo) ∧ w'.cell? ⟨V9.heap.size, 5, none⟩ = some (.int .i64 wi)) (by kernel_rfl) ?_ (fun hHeld => ?_)
        · exact ⟨xs.cell 0 rfl, xs.cell 1 rfl, xs.cell 2 rfl, xs.cell 3 rfl, xs.cell 4 rfl, xs.cell 5 rfl, xd.cell 0 rfl, xd.cell 1 rfl, xd.cell 2 rfl, xd.cell 3 rfl, xd.cell 4 rfl, xd.cell 5 rfl⟩
        generalize V10.drew = V11 at *
        refine tk 0 (v := ?_) rfl (Or.inl ⟨by rfl, ?_⟩) ?_; rotate_left
        · intro w hSw; (try dsimp only at hSw); go_simp; try with_reducible rfl
        try simp only [Act.put, l1, l2, l3, l4, l5, l6]
        refine tk 1 (v := ?_) rfl (Or.inl ⟨by rfl, ?_⟩) ?_; rotate_left
        · intro w hSw; (try dsimp only at hSw); go_simp; try with_reducible rfl
        try simp only [Act.put, l1, l2, l3, l4, l5, l6]
        refine tk 2 (v := ?_) rfl (Or.inl ⟨by rfl, ?_⟩) ?_; rotate_left
        · intro w hSw; (try dsimp only at hSw); go_simp; try with_reducible rfl
        try simp only [Act.put, l1, l2, l3, l4, l5, l6]
        refine wpAnyH_take (i := 3) (v := undef) rfl (by kernel_rfl) (by kernel_rfl) (by kernel_rfl) (fun _ _ _ h => h) (Or.inr ⟨by rfl, rfl⟩) (by assumption) ?_
        try simp only [Act.put, l1, l2, l3, l4, l5, l6]
        refine wpAnyH_take (i := 4) (v := undef) rfl (by kernel_rfl) (by kernel_rfl) (by kernel_rfl) (fun _ _ _ h => h) (Or.inr ⟨by rfl, rfl⟩) (by assumption) ?_
        try simp only [Act.put, l1, l2, l3, l4, l5, l6]
        refine wpAnyH_take (i := 5) (v := undef) rfl (by kernel_rfl) (by kernel_rfl) (by kernel_rfl) (fun _ _ _ h => h) (Or.inr ⟨by rfl, rfl⟩) (by assumption) ?_
        try simp only [Act.put, l1, l2, l3, l4, l5, l6]
        refine wpAnyH_take (i := 6) (v := undef) rfl (by kernel_rfl) (by kernel_rfl) (by kernel_rfl) (fun _ _ _ h => h) (Or.inr ⟨by rfl, rfl⟩) (by assumption) ?_
        try simp only [Act.put, l1, l2, l3, l4, l5, l6]
        refine wpAnyH_take (i := 7) (v := undef) rfl (by kernel_rfl) (by kernel_rfl) (by kernel_rfl) (fun _ _ _ h => h) (Or.inr ⟨by rfl, rfl⟩) (by assumption) ?_
        try simp only [Act.put, l1, l2, l3, l4, l5, l6]
        refine wpAnyH_take (i := 8) (v := undef) rfl (by kernel_rfl) (by kernel_rfl) (by kernel_rfl) (fun _ _ _ h => h) (Or.inr ⟨by rfl, rfl⟩) (by assumption) ?_
        try simp only [Act.put, l1, l2, l3, l4, l5, l6]
        refine wpAnyH_take (i := 9) (v := undef) rfl (by kernel_rfl) (by kernel_rfl) (by kernel_rfl) (fun _ _ _ h => h) (Or.inr ⟨by rfl, rfl⟩) (by assumption) ?_
        try simp only [Act.put, l1, l2, l3, l4, l5, l6]
        refine wpAnyH_take (i := 10) (v := undef) rfl (by kernel_rfl) (by kernel_rfl) (by kernel_rfl) (fun _ _ _ h => h) (Or.inr ⟨by rfl, rfl⟩) (by assumption) ?_
        try simp only [Act.put, l1, l2, l3, l4, l5, l6]
        refine wpAnyH_take (i := 11) (v := undef) rfl (by kernel_rfl) (by kernel_rfl) (by kernel_rfl) (fun _ _ _ h => h) (Or.inr ⟨by rfl, rfl⟩) (by assumption) ?_
        try simp only [Act.put, l1, l2, l3, l4, l5, l6]
        refine wpAnyH_take (i := 12) (v := undef) rfl (by kernel_rfl) (by kernel_rfl) (by kernel_rfl) (fun _ _ _ h => h) (Or.inr ⟨by rfl, rfl⟩) (by assumption) ?_
        try simp only [Act.put, l1, l2, l3, l4, l5, l6]
        refine wpAnyH_take (i := 13) (v := undef) rfl (by kernel_rfl) (by kernel_rfl) (by kernel_rfl) (fun _ _ _ h => h) (Or.inr ⟨by rfl, rfl⟩) (by assumption) ?_
        try simp only [Act.put, l1, l2, l3, l4, l5, l6]
        refine wpAnyH_take (i := 14) (v := undef) rfl (by kernel_rfl) (by kernel_rfl) (by kernel_rfl) (fun _ _ _ h => h) (Or.inr ⟨by rfl, rfl⟩) (by assumption) ?_
        try simp only [Act.put, l1, l2, l3, l4, l5, l6]
        refine wpAnyH_take (i := 15) (v := undef) rfl (by kernel_rfl) (by kernel_rfl) (by kernel_rfl) (fun _ _ _ h => h) (Or.inr ⟨by rfl, rfl⟩) (by assumption) ?_
        try simp only [Act.put, l1, l2, l3, l4, l5, l6]
        refine wpAnyH_take (i := 16) (v := undef) rfl (by kernel_rfl) (by kernel_rfl) (by kernel_rfl) (fun _ _ _ h => h) (Or.inr ⟨by rfl, rfl⟩) (by assumption) ?_
        try simp only [Act.put, l1, l2, l3, l4, l5, l6]
        refine wpAnyH_take (i := 17) (v := undef) rfl (by kernel_rfl) (by kernel_rfl) (by kernel_rfl) (fun _ _ _ h => h) (Or.inr ⟨by rfl, rfl⟩) (by assumption) ?_
        try simp only [Act.put, l1, l2, l3, l4, l5, l6]
        refine wpAnyH_take (i := 18) (v := undef) rfl (by kernel_rfl) (by kernel_rfl) (by kernel_rfl) (fun _ _ _ h => h) (Or.inr ⟨by rfl, rfl⟩) (by assumption) ?_
        try simp only [Act.put, l1, l2, l3, l4, l5, l6]
        refine wpAnyH_take (i := 19) (v := undef) rfl (by kernel_rfl) (by kernel_rfl) (by kernel_rfl) (fun _ _ _ h => h) (Or.inr ⟨by rfl, rfl⟩) (by assumption) ?_
        try simp only [Act.put, l1, l2, l3, l4, l5, l6]
        refine wpAnyH_take (i := 20) (v := undef) rfl (by kernel_rfl) (by kernel_rfl) (by kernel_rfl) (fun _ _ _ h => h) (Or.inr ⟨by rfl, rfl⟩) (by assumption) ?_
        try simp only [Act.put, l1, l2, l3, l4, l5, l6]
        refine wpAnyH_take (i := 21) (v := undef) rfl (by kernel_rfl) (by kernel_rfl) (by kernel_rfl) (fun _ _ _ h => h) (Or.inr ⟨by rfl, rfl⟩) (by assumption) ?_
        try simp only [Act.put, l1, l2, l3, l4, l5, l6]
        refine wpAnyH_take (i := 22) (v := undef) rfl (by kernel_rfl) (by kernel_rfl) (by kernel_rfl) (fun _ _ _ h => h) (Or.inr ⟨by rfl, rfl⟩) (by assumption) ?_
        try simp only [Act.put, l1, l2, l3, l4, l5, l6]
        refine wpAnyH_take (i := 23) (v := undef) rfl (by kernel_rfl) (by kernel_rfl) (by kernel_rfl) (fun _ _ _ h => h) (Or.inr ⟨by rfl, rfl⟩) (by assumption) ?_
        try simp only [Act.put, l1, l2, l3, l4, l5, l6]
        refine wpAnyH_take (i := 24) (v := undef) rfl (by kernel_rfl) (by kernel_rfl) (by kernel_rfl) (fun _ _ _ h => h) (Or.inr ⟨by rfl, rfl⟩) (by assumption) ?_
        try simp only [Act.put, l1, l2, l3, l4, l5, l6]
        refine wpAnyH_take (i := 25) (v := undef) rfl (by kernel_rfl) (by kernel_rfl) (by kernel_rfl) (fun _ _ _ h => h) (Or.inr ⟨by rfl, rfl⟩) (by assumption) ?_
        try simp only [Act.put, l1, l2, l3, l4, l5, l6]
        refine wpAnyH_take (i := 26) (v := undef) rfl (by kernel_rfl) (by kernel_rfl) (by kernel_rfl) (fun _ _ _ h => h) (Or.inr ⟨by rfl, rfl⟩) (by assumption) ?_
        try simp only [Act.put, l1, l2, l3, l4, l5, l6]
        refine wpAnyH_take (i := 27) (v := undef) rfl (by kernel_rfl) (by kernel_rfl) (by kernel_rfl) (fun _ _ _ h => h) (Or.inr ⟨by rfl, rfl⟩) (by assumption) ?_
        try simp only [Act.put, l1, l2, l3, l4, l5, l6]
        refine tk 28 (v := ?_) rfl (Or.inl ⟨by rfl, ?_⟩) ?_; rotate_left
        · intro w hSw; (try dsimp only at hSw); go_simp; try with_reducible rfl
        try simp only [Act.put, l1, l2, l3, l4, l5, l6]
        refine tk 29 (v := ?_) rfl (Or.inl ⟨by rfl, ?_⟩) ?_; rotate_left
        · intro w hSw; (try dsimp only at hSw); go_simp; try with_reducible rfl
        try simp only [Act.put, l1, l2, l3, l4, l5, l6]
        refine wpAnyH_done (by kernel_rfl) ?_ _
        clear hHeld
        obtain ⟨xs0, xsz0, xs1, xsz1, xs2, xsz2, xs3, xsz3, xs4, xsz4, xs5, xsz5⟩ := xs.f6
        obtain ⟨xd0, xdz0, xd1, xdz1, xd2, xdz2, xd3, xdz3, xd4, xdz4, xd5, xdz5⟩ := xd.f6
        go_wp2
        go_ret
        exact ⟨rfl, hB⟩
      · rw [hi, if_neg (fun k => hn k.2)] at hE5
        have hR : deltaS s ⟨5, 0, 0, 0⟩ = setIso s (orI s.iso 0) := delta_done hE5
        have T3 := Lib.hid (fun (V : World) => (show Calls Try.prog 13 #[.agg #[.int .i64 s.mode, .bool s.armed, .bool s.home, .int .i64 s.lat, .int .i64 s.lon, .int .i64 s.iso], .agg #[.int .i64 5, .int .i64 0, .float .f64 0, .float .f64 0]] V fun e W' => e = .returned (.tuple #[.agg #[.int .i64 s.mode, .bool s.armed, .bool s.home, .int .i64 s.lat, .int .i64 s.lon, .int .i64 (orI s.iso 0)], .int .i64 0]) ∧ Below V.heap.size V W' from by have h := own16Delta s ⟨5, 0, 0, 0⟩ V hl ⟨by decide, by decide, by show (0 : Nat) < 2 ^ 64; decide, by show (0 : Nat) < 2 ^ 64; decide⟩; rw [hE5, hR] at h; exact h))
        rw [hR] at lC
        have hX : deltaS (setIso s (orI s.iso 0)) ⟨6, 0, 0, 0⟩ = s := by
          rw [delta_done (hE6 _)]
          show setIso s (clI (orI s.iso 0) 0) = s
          have e1 : clI (orI s.iso 0) 0 = clI s.iso 0 := IA.co
          have e2 : clI s.iso 0 = s.iso := IA.cn hi
          rw [e1, e2]; rfl
        have T4 := Lib.hid (fun (V : World) => (show Calls Try.prog 13 #[.agg #[.int .i64 s.mode, .bool s.armed, .bool s.home, .int .i64 s.lat, .int .i64 s.lon, .int .i64 (orI s.iso 0)], .agg #[.int .i64 6, .int .i64 0, .float .f64 0, .float .f64 0]] V fun e W' => e = .returned (.tuple #[.agg #[.int .i64 s.mode, .bool s.armed, .bool s.home, .int .i64 s.lat, .int .i64 s.lon, .int .i64 s.iso], .int .i64 0]) ∧ Below V.heap.size V W' from by have h := own16Delta (setIso s (orI s.iso 0)) ⟨6, 0, 0, 0⟩ V lC ⟨by decide, by decide, by show (0 : Nat) < 2 ^ 64; decide, by show (0 : Nat) < 2 ^ 64; decide⟩; rw [hE6, hX] at h; exact h))
        clear hE5 hE6 lC IA b1 b2 b3 hi hs1 hI hl hR hn hX
        generalize orI s.iso 0 = y at *
        go_wp2_with fail
        refine (T3.out _).mono ?_
        rintro e V8 ⟨rfl, hk⟩
        clear xs0 xsz0 xs1 xsz1 xs2 xsz2 xs3 xsz3 xs4 xsz4 xs5 xsz5 xb0 xbz0 xb1 xbz1 xb2 xbz2 xb3 xbz3 xb4 xbz4 xb5 xbz5
        replace hB := below_seq hB hk
        replace xs := xs.seq hk
        replace xb := xb.seq hk
        clear hk
        have xc := Box.new 23 V8 [.int .i64 s.mode, .bool s.armed, .bool s.home, .int .i64 s.lat, .int .i64 s.lon, .int .i64 y]
        have ne_xc_xs : V8.heap.size ≠ W.heap.size := Nat.ne_of_gt xs.lt
        have le_xc : W.heap.size ≤ V8.heap.size := hB.size
        replace xs := xs.alloc (.cells #[.int .i64 s.mode, .bool s.armed, .bool s.home, .int .i64 s.lat, .int .i64 s.lon, .int .i64 y] 23)
        replace hB := hB.alloc hB.size (.cells #[.int .i64 s.mode, .bool s.armed, .bool s.home, .int .i64 s.lat, .int .i64 s.lon, .int .i64 y] 23)
        obtain ⟨xc0, xcz0, xc1, xcz1, xc2, xcz2, xc3, xcz3, xc4, xcz4, xc5, xcz5⟩ := xc.f6
        go_wp2_with fail
        refine (T4.out _).mono ?_
        rintro e V9 ⟨rfl, hk⟩
        clear xc0 xcz0 xc1 xcz1 xc2 xcz2 xc3 xcz3 xc4 xcz4 xc5 xcz5
        replace hB := below_seq hB hk
        replace xs := xs.seq hk
        replace xc := xc.seq hk
        clear hk
        have xd := Box.new 23 V9 [.int .i64 s.mode, .bool s.armed, .bool s.home, .int .i64 s.lat, .int .i64 s.lon, .int .i64 s.iso]
        have ne_xd_xs : V9.heap.size ≠ W.heap.size := Nat.ne_of_gt xs.lt
        have le_xd : W.heap.size ≤ V9.heap.size := hB.size
        replace xs := xs.alloc (.cells #[.int .i64 s.mode, .bool s.armed, .bool s.home, .int .i64 s.lat, .int .i64 s.lon, .int .i64 s.iso] 23)
        replace hB := hB.alloc hB.size (.cells #[.int .i64 s.mode, .bool s.armed, .bool s.home, .int .i64 s.lat, .int .i64 s.lon, .int .i64 s.iso] 23)
        obtain ⟨xs0, xsz0, xs1, xsz1, xs2, xsz2, xs3, xsz3, xs4, xsz4, xs5, xsz5⟩ := xs.f6
        obtain ⟨xd0, xdz0, xd1, xdz1, xd2, xdz2, xd3, xdz3, xd4, xdz4, xd5, xdz5⟩ := xd.f6
        go_wp2_with fail
        clear xs0 xsz0 xs1 xsz1 xs2 xsz2 xs3 xsz3 xs4 xsz4 xs5 xsz5 xd0 xdz0 xd1 xdz1 xd2 xdz2 xd3 xdz3 xd4 xdz4 xd5 xdz5
        generalize (V9.alloc (.cells #[.int .i64 s.mode, .bool s.armed, .bool s.home, .int .i64 s.lat, .int .i64 s.lon, .int .i64 s.iso] 23)) = V10 at *
        replace hB := hB.drew
        replace xs := xs.drew
        replace xd := xd.drew
        refine wp_region_held_drew (S := fun w' => w'.cell? ⟨W.heap.size, 0, none⟩ = some (.int .i64 s.mode) ∧ w'.cell? ⟨W.heap.size, 1, none⟩ = some (.bool s.armed) ∧ w'.cell? ⟨W.heap.size, 2, none⟩ = some (.bool s.home) ∧ w'.cell? ⟨W.heap.size, 3, none⟩ = some (.int .i64 s.lat) ∧ w'.cell? ⟨W.heap.size, 4, none⟩ = some (.int .i64 s.lon) ∧ w'.cell? ⟨W.heap.size, 5, none⟩ = some (.int .i64 s.iso) ∧ w'.cell? ⟨V9.heap.size, 0, none⟩ = some (.int .i64 s.mode) ∧ w'.cell? ⟨V9.heap.size, 1, none⟩ = some (.bool s.armed) ∧ w'.cell? ⟨V9.heap.size, 2, none⟩ = some (.bool s.home) ∧ w'.cell? ⟨V9.heap.size, 3, none⟩ = some (.int .i64 s.lat) ∧ w'.cell? ⟨V9.heap.size, 4, none⟩ = some (.int .i64 s.lon) ∧ w'.cell? ⟨V9.heap.size, 5, none⟩ = some (.int .i64 s.iso)) (by kernel_rfl) ?_ (fun hHeld => ?_)
        · exact ⟨xs.cell 0 rfl, xs.cell 1 rfl, xs.cell 2 rfl, xs.cell 3 rfl, xs.cell 4 rfl, xs.cell 5 rfl, xd.cell 0 rfl, xd.cell 1 rfl, xd.cell 2 rfl, xd.cell 3 rfl, xd.cell 4 rfl, xd.cell 5 rfl⟩
        generalize V10.drew = V11 at *
        refine tk 0 (v := ?_) rfl (Or.inl ⟨by rfl, ?_⟩) ?_; rotate_left
        · intro w hSw; (try dsimp only at hSw); go_simp; try with_reducible rfl
        try simp only [Act.put, l1, l2, l3, l4, l5, l6]
        refine tk 1 (v := ?_) rfl (Or.inl ⟨by rfl, ?_⟩) ?_; rotate_left
        · intro w hSw; (try dsimp only at hSw); go_simp; try with_reducible rfl
        try simp only [Act.put, l1, l2, l3, l4, l5, l6]
        refine tk 2 (v := ?_) rfl (Or.inl ⟨by rfl, ?_⟩) ?_; rotate_left
        · intro w hSw; (try dsimp only at hSw); go_simp; try with_reducible rfl
        try simp only [Act.put, l1, l2, l3, l4, l5, l6]
        refine tk 3 (v := ?_) rfl (Or.inl ⟨by rfl, ?_⟩) ?_; rotate_left
        · intro w hSw; (try dsimp only at hSw); go_simp; try with_reducible rfl
        try simp only [Act.put, l1, l2, l3, l4, l5, l6]
        refine tk 4 (v := ?_) rfl (Or.inl ⟨by rfl, ?_⟩) ?_; rotate_left
        · intro w hSw; (try dsimp only at hSw); go_simp; try with_reducible rfl
        try simp only [Act.put, l1, l2, l3, l4, l5, l6]
        refine tk 5 (v := ?_) rfl (Or.inl ⟨by rfl, ?_⟩) ?_; rotate_left
        · intro w hSw; (try dsimp only at hSw); go_simp; try with_reducible rfl
        try simp only [Act.put, l1, l2, l3, l4, l5, l6]
        refine tk 6 (v := ?_) rfl (Or.inl ⟨by rfl, ?_⟩) ?_; rotate_left
        · intro w hSw; (try dsimp only at hSw); go_simp; try with_reducible rfl
        try simp only [Act.put, l1, l2, l3, l4, l5, l6]
        refine tk 7 (v := ?_) rfl (Or.inl ⟨by rfl, ?_⟩) ?_; rotate_left
        · intro w hSw; (try dsimp only at hSw); go_simp; try with_reducible rfl
        try simp only [Act.put, l1, l2, l3, l4, l5, l6]
        refine tk 8 (v := ?_) rfl (Or.inl ⟨by rfl, ?_⟩) ?_; rotate_left
        · intro w hSw; (try dsimp only at hSw); go_simp; try with_reducible rfl
        try simp only [Act.put, l1, l2, l3, l4, l5, l6]
        refine tk 9 (v := ?_) rfl (Or.inl ⟨by rfl, ?_⟩) ?_; rotate_left
        · intro w hSw; (try dsimp only at hSw); go_simp; try with_reducible rfl
        try simp only [Act.put, l1, l2, l3, l4, l5, l6]
        refine wpAnyH_take (i := 10) (v := undef) rfl (by kernel_rfl) (by kernel_rfl) (by kernel_rfl) (fun _ _ _ h => h) (Or.inr ⟨by rfl, rfl⟩) (by assumption) ?_
        try simp only [Act.put, l1, l2, l3, l4, l5, l6]
        refine wpAnyH_take (i := 11) (v := undef) rfl (by kernel_rfl) (by kernel_rfl) (by kernel_rfl) (fun _ _ _ h => h) (Or.inr ⟨by rfl, rfl⟩) (by assumption) ?_
        try simp only [Act.put, l1, l2, l3, l4, l5, l6]
        refine wpAnyH_take (i := 12) (v := undef) rfl (by kernel_rfl) (by kernel_rfl) (by kernel_rfl) (fun _ _ _ h => h) (Or.inr ⟨by rfl, rfl⟩) (by assumption) ?_
        try simp only [Act.put, l1, l2, l3, l4, l5, l6]
        refine wpAnyH_take (i := 13) (v := undef) rfl (by kernel_rfl) (by kernel_rfl) (by kernel_rfl) (fun _ _ _ h => h) (Or.inr ⟨by rfl, rfl⟩) (by assumption) ?_
        try simp only [Act.put, l1, l2, l3, l4, l5, l6]
        refine wpAnyH_take (i := 14) (v := undef) rfl (by kernel_rfl) (by kernel_rfl) (by kernel_rfl) (fun _ _ _ h => h) (Or.inr ⟨by rfl, rfl⟩) (by assumption) ?_
        try simp only [Act.put, l1, l2, l3, l4, l5, l6]
        refine wpAnyH_take (i := 15) (v := undef) rfl (by kernel_rfl) (by kernel_rfl) (by kernel_rfl) (fun _ _ _ h => h) (Or.inr ⟨by rfl, rfl⟩) (by assumption) ?_
        try simp only [Act.put, l1, l2, l3, l4, l5, l6]
        refine wpAnyH_take (i := 16) (v := undef) rfl (by kernel_rfl) (by kernel_rfl) (by kernel_rfl) (fun _ _ _ h => h) (Or.inr ⟨by rfl, rfl⟩) (by assumption) ?_
        try simp only [Act.put, l1, l2, l3, l4, l5, l6]
        refine wpAnyH_take (i := 17) (v := undef) rfl (by kernel_rfl) (by kernel_rfl) (by kernel_rfl) (fun _ _ _ h => h) (Or.inr ⟨by rfl, rfl⟩) (by assumption) ?_
        try simp only [Act.put, l1, l2, l3, l4, l5, l6]
        refine wpAnyH_take (i := 18) (v := undef) rfl (by kernel_rfl) (by kernel_rfl) (by kernel_rfl) (fun _ _ _ h => h) (Or.inr ⟨by rfl, rfl⟩) (by assumption) ?_
        try simp only [Act.put, l1, l2, l3, l4, l5, l6]
        refine wpAnyH_take (i := 19) (v := undef) rfl (by kernel_rfl) (by kernel_rfl) (by kernel_rfl) (fun _ _ _ h => h) (Or.inr ⟨by rfl, rfl⟩) (by assumption) ?_
        try simp only [Act.put, l1, l2, l3, l4, l5, l6]
        refine wpAnyH_take (i := 20) (v := undef) rfl (by kernel_rfl) (by kernel_rfl) (by kernel_rfl) (fun _ _ _ h => h) (Or.inr ⟨by rfl, rfl⟩) (by assumption) ?_
        try simp only [Act.put, l1, l2, l3, l4, l5, l6]
        refine wpAnyH_take (i := 21) (v := undef) rfl (by kernel_rfl) (by kernel_rfl) (by kernel_rfl) (fun _ _ _ h => h) (Or.inr ⟨by rfl, rfl⟩) (by assumption) ?_
        try simp only [Act.put, l1, l2, l3, l4, l5, l6]
        refine wpAnyH_take (i := 22) (v := undef) rfl (by kernel_rfl) (by kernel_rfl) (by kernel_rfl) (fun _ _ _ h => h) (Or.inr ⟨by rfl, rfl⟩) (by assumption) ?_
        try simp only [Act.put, l1, l2, l3, l4, l5, l6]
        refine wpAnyH_take (i := 23) (v := undef) rfl (by kernel_rfl) (by kernel_rfl) (by kernel_rfl) (fun _ _ _ h => h) (Or.inr ⟨by rfl, rfl⟩) (by assumption) ?_
        try simp only [Act.put, l1, l2, l3, l4, l5, l6]
        refine wpAnyH_take (i := 24) (v := undef) rfl (by kernel_rfl) (by kernel_rfl) (by kernel_rfl) (fun _ _ _ h => h) (Or.inr ⟨by rfl, rfl⟩) (by assumption) ?_
        try simp only [Act.put, l1, l2, l3, l4, l5, l6]
        refine wpAnyH_take (i := 25) (v := undef) rfl (by kernel_rfl) (by kernel_rfl) (by kernel_rfl) (fun _ _ _ h => h) (Or.inr ⟨by rfl, rfl⟩) (by assumption) ?_
        try simp only [Act.put, l1, l2, l3, l4, l5, l6]
        refine tk 26 (v := ?_) rfl (Or.inl ⟨by rfl, ?_⟩) ?_; rotate_left
        · intro w hSw; (try dsimp only at hSw); go_simp; try with_reducible rfl
        try simp only [Act.put, l1, l2, l3, l4, l5, l6]
        refine tk 27 (v := ?_) rfl (Or.inl ⟨by rfl, ?_⟩) ?_; rotate_left
        · intro w hSw; (try dsimp only at hSw); go_simp; try with_reducible rfl
        try simp only [Act.put, l1, l2, l3, l4, l5, l6]
        refine tk 28 (v := ?_) rfl (Or.inl ⟨by rfl, ?_⟩) ?_; rotate_left
        · intro w hSw; (try dsimp only at hSw); go_simp; try with_reducible rfl
        try simp only [Act.put, l1, l2, l3, l4, l5, l6]
        refine tk 29 (v := ?_) rfl (Or.inl ⟨by rfl, ?_⟩) ?_; rotate_left
        · intro w hSw; (try dsimp only at hSw); go_simp; try with_reducible rfl
        try simp only [Act.put, l1, l2, l3, l4, l5, l6]
        refine wpAnyH_done (by kernel_rfl) ?_ _
        clear hHeld
        obtain ⟨xs0, xsz0, xs1, xsz1, xs2, xsz2, xs3, xsz3, xs4, xsz4, xs5, xsz5⟩ := xs.f6
        obtain ⟨xd0, xdz0, xd1, xdz1, xd2, xdz2, xd3, xdz3, xd4, xdz4, xd5, xdz5⟩ := xd.f6
        go_wp2
        go_ret
        exact ⟨rfl, hB⟩
    | true =>
      rw [hi, if_neg (fun k => by cases k.1)] at hE5
      have e1 : orI s.iso 0 = s.iso := (IA.of hi).1
      have hR : deltaS s ⟨5, 0, 0, 0⟩ = s := by
        rw [delta_done hE5]
        show setIso s (orI s.iso 0) = s
        rw [e1]; rfl
      have T3 := Lib.hid (fun (V : World) => (show Calls Try.prog 13 #[.agg #[.int .i64 s.mode, .bool s.armed, .bool s.home, .int .i64 s.lat, .int .i64 s.lon, .int .i64 s.iso], .agg #[.int .i64 5, .int .i64 0, .float .f64 0, .float .f64 0]] V fun e W' => e = .returned (.tuple #[.agg #[.int .i64 s.mode, .bool s.armed, .bool s.home, .int .i64 s.lat, .int .i64 s.lon, .int .i64 s.iso], .int .i64 0]) ∧ Below V.heap.size V W' from by have h := own16Delta s ⟨5, 0, 0, 0⟩ V hl ⟨by decide, by decide, by show (0 : Nat) < 2 ^ 64; decide, by show (0 : Nat) < 2 ^ 64; decide⟩; rw [hE5, hR] at h; exact h))
      have T4 := Lib.hid (fun (V : World) => (show Calls Try.prog 13 #[.agg #[.int .i64 s.mode, .bool s.armed, .bool s.home, .int .i64 s.lat, .int .i64 s.lon, .int .i64 s.iso], .agg #[.int .i64 6, .int .i64 0, .float .f64 0, .float .f64 0]] V fun e W' => e = .returned (.tuple #[.agg #[.int .i64 s.mode, .bool s.armed, .bool s.home, .int .i64 s.lat, .int .i64 s.lon, .int .i64 (clI s.iso 0)], .int .i64 0]) ∧ Below V.heap.size V W' from by have h := own16Delta s ⟨6, 0, 0, 0⟩ V hl ⟨by decide, by decide, by show (0 : Nat) < 2 ^ 64; decide, by show (0 : Nat) < 2 ^ 64; decide⟩; rw [hE6, delta_done (hE6 s)] at h; exact h))
      have d1 : ¬ clI s.iso 0 = s.iso := fun k => by
        have h2 : isIso (clI s.iso 0) 0 = false := IA.ic
        rw [k, hi] at h2; cases h2
      have d3 := i64_and1 (s.iso / 2 ^ 0)
      have d5 : IntKind.i64.wrap 1 = 1 := IntWalk.i64_in _ (by decide)
      have d2 : s.iso / 2 ^ 0 % 2 = 1 := by unfold isIso at hi; exact of_decide_eq_true hi
      rw [d2] at d3
      rw [show ((2 : Int) ^ 0) = 1 from rfl] at d3
      have d4 : bits .and .i64 s.iso 1 = 1 := by rw [Int.ediv_one] at d3; exact d3
      clear hE5 hE6 lC IA b1 b2 hi hs1 hI hl hR e1 d2
      generalize clI s.iso 0 = y at *
      go_wp2_with fail
      refine (T3.out _).mono ?_
      rintro e V8 ⟨rfl, hk⟩
      clear xs0 xsz0 xs1 xsz1 xs2 xsz2 xs3 xsz3 xs4 xsz4 xs5 xsz5 xb0 xbz0 xb1 xbz1 xb2 xbz2 xb3 xbz3 xb4 xbz4 xb5 xbz5
      replace hB := below_seq hB hk
      replace xs := xs.seq hk
      replace xb := xb.seq hk
      clear hk
      have xc := Box.new 23 V8 [.int .i64 s.mode, .bool s.armed, .bool s.home, .int .i64 s.lat, .int .i64 s.lon, .int .i64 s.iso]
      have ne_xc_xs : V8.heap.size ≠ W.heap.size := Nat.ne_of_gt xs.lt
      have le_xc : W.heap.size ≤ V8.heap.size := hB.size
      replace xs := xs.alloc (.cells #[.int .i64 s.mode, .bool s.armed, .bool s.home, .int .i64 s.lat, .int .i64 s.lon, .int .i64 s.iso] 23)
      replace hB := hB.alloc hB.size (.cells #[.int .i64 s.mode, .bool s.armed, .bool s.home, .int .i64 s.lat, .int .i64 s.lon, .int .i64 s.iso] 23)
      obtain ⟨xc0, xcz0, xc1, xcz1, xc2, xcz2, xc3, xcz3, xc4, xcz4, xc5, xcz5⟩ := xc.f6
      go_wp2_with fail
      refine (T4.out _).mono ?_
      rintro e V9 ⟨rfl, hk⟩
      clear xc0 xcz0 xc1 xcz1 xc2 xcz2 xc3 xcz3 xc4 xcz4 xc5 xcz5
      replace hB := below_seq hB hk
      replace xs := xs.seq hk
      replace xc := xc.seq hk
      clear hk
      have xd := Box.new 23 V9 [.int .i64 s.mode, .bool s.armed, .bool s.home, .int .i64 s.lat, .int .i64 s.lon, .int .i64 y]
      have ne_xd_xs : V9.heap.size ≠ W.heap.size := Nat.ne_of_gt xs.lt
      have le_xd : W.heap.size ≤ V9.heap.size := hB.size
      replace xs := xs.alloc (.cells #[.int .i64 s.mode, .bool s.armed, .bool s.home, .int .i64 s.lat, .int .i64 s.lon, .int .i64 y] 23)
      replace hB := hB.alloc hB.size (.cells #[.int .i64 s.mode, .bool s.armed, .bool s.home, .int .i64 s.lat, .int .i64 s.lon, .int .i64 y] 23)
      obtain ⟨xs0, xsz0, xs1, xsz1, xs2, xsz2, xs3, xsz3, xs4, xsz4, xs5, xsz5⟩ := xs.f6
      obtain ⟨xd0, xdz0, xd1, xdz1, xd2, xdz2, xd3, xdz3, xd4, xdz4, xd5, xdz5⟩ := xd.f6
      go_wp2_with fail
      clear xs0 xsz0 xs1 xsz1 xs2 xsz2 xs3 xsz3 xs4 xsz4 xs5 xsz5 xd0 xdz0 xd1 xdz1 xd2 xdz2 xd3 xdz3 xd4 xdz4 xd5 xdz5
      generalize (V9.alloc (.cells #[.int .i64 s.mode, .bool s.armed, .bool s.home, .int .i64 s.lat, .int .i64 s.lon, .int .i64 y] 23)) = V10 at *
      replace hB := hB.drew
      replace xs := xs.drew
      replace xd := xd.drew
      refine wp_region_held_drew (S := fun w' => w'.cell? ⟨W.heap.size, 0, none⟩ = some (.int .i64 s.mode) ∧ w'.cell? ⟨W.heap.size, 1, none⟩ = some (.bool s.armed) ∧ w'.cell? ⟨W.heap.size, 2, none⟩ = some (.bool s.home) ∧ w'.cell? ⟨W.heap.size, 3, none⟩ = some (.int .i64 s.lat) ∧ w'.cell? ⟨W.heap.size, 4, none⟩ = some (.int .i64 s.lon) ∧ w'.cell? ⟨W.heap.size, 5, none⟩ = some (.int .i64 s.iso) ∧ w'.cell? ⟨V9.heap.size, 0, none⟩ = some (.int .i64 s.mode) ∧ w'.cell? ⟨V9.heap.size, 1, none⟩ = some (.bool s.armed) ∧ w'.cell? ⟨V9.heap.size, 2, none⟩ = some (.bool s.home) ∧ w'.cell? ⟨V9.heap.size, 3, none⟩ = some (.int .i64 s.lat) ∧ w'.cell? ⟨V9.heap.size, 4, none⟩ = some (.int .i64 s.lon) ∧ w'.cell? ⟨V9.heap.size, 5, none⟩ = some (.int .i64 y)) (by kernel_rfl) ?_ (fun hHeld => ?_)
      · exact ⟨xs.cell 0 rfl, xs.cell 1 rfl, xs.cell 2 rfl, xs.cell 3 rfl, xs.cell 4 rfl, xs.cell 5 rfl, xd.cell 0 rfl, xd.cell 1 rfl, xd.cell 2 rfl, xd.cell 3 rfl, xd.cell 4 rfl, xd.cell 5 rfl⟩
      generalize V10.drew = V11 at *
      refine tk 0 (v := ?_) rfl (Or.inl ⟨by rfl, ?_⟩) ?_; rotate_left
      · intro w hSw; (try dsimp only at hSw); go_simp; try with_reducible rfl
      try simp only [Act.put, l1, l2, l3, l4, l5, l6]
      refine tk 1 (v := ?_) rfl (Or.inl ⟨by rfl, ?_⟩) ?_; rotate_left
      · intro w hSw; (try dsimp only at hSw); go_simp; try with_reducible rfl
      try simp only [Act.put, l1, l2, l3, l4, l5, l6]
      refine tk 2 (v := ?_) rfl (Or.inl ⟨by rfl, ?_⟩) ?_; rotate_left
      · intro w hSw; (try dsimp only at hSw); go_simp; try with_reducible rfl
      try simp only [Act.put, l1, l2, l3, l4, l5, l6]
      refine tk 3 (v := ?_) rfl (Or.inl ⟨by rfl, ?_⟩) ?_; rotate_left
      · intro w hSw; (try dsimp only at hSw); go_simp; try with_reducible rfl
      try simp only [Act.put, l1, l2, l3, l4, l5, l6]
      refine tk 4 (v := ?_) rfl (Or.inl ⟨by rfl, ?_⟩) ?_; rotate_left
      · intro w hSw; (try dsimp only at hSw); go_simp; try with_reducible rfl
      try simp only [Act.put, l1, l2, l3, l4, l5, l6]
      refine tk 5 (v := ?_) rfl (Or.inl ⟨by rfl, ?_⟩) ?_; rotate_left
      · intro w hSw; (try dsimp only at hSw); go_simp; try with_reducible rfl
      try simp only [Act.put, l1, l2, l3, l4, l5, l6]
      refine tk 6 (v := ?_) rfl (Or.inl ⟨by rfl, ?_⟩) ?_; rotate_left
      · intro w hSw; (try dsimp only at hSw); go_simp; try with_reducible rfl
      try simp only [Act.put, l1, l2, l3, l4, l5, l6]
      refine tk 7 (v := ?_) rfl (Or.inl ⟨by rfl, ?_⟩) ?_; rotate_left
      · intro w hSw; (try dsimp only at hSw); go_simp; try with_reducible rfl
      try simp only [Act.put, l1, l2, l3, l4, l5, l6]
      refine tk 8 (v := ?_) rfl (Or.inl ⟨by rfl, ?_⟩) ?_; rotate_left
      · intro w hSw; (try dsimp only at hSw); go_simp; try with_reducible rfl
      try simp only [Act.put, l1, l2, l3, l4, l5, l6]
      refine tk 9 (v := ?_) rfl (Or.inl ⟨by rfl, ?_⟩) ?_; rotate_left
      · intro w hSw; (try dsimp only at hSw); go_simp; try with_reducible rfl
      try simp only [Act.put, l1, l2, l3, l4, l5, l6]
      refine tk 10 (v := ?_) rfl (Or.inl ⟨by rfl, ?_⟩) ?_; rotate_left
      · intro w hSw; (try dsimp only at hSw); go_simp; try with_reducible rfl
      try simp only [Act.put, l1, l2, l3, l4, l5, l6]
      refine tk 11 (v := ?_) rfl (Or.inl ⟨by rfl, ?_⟩) ?_; rotate_left
      · intro w hSw; (try dsimp only at hSw); go_simp; try with_reducible rfl
      try simp only [Act.put, l1, l2, l3, l4, l5, l6]
      refine tk 12 (v := ?_) rfl (Or.inl ⟨by rfl, ?_⟩) ?_; rotate_left
      · intro w hSw; (try dsimp only at hSw); go_simp; try with_reducible rfl
      try simp only [Act.put, l1, l2, l3, l4, l5, l6]
      refine tk 13 (v := ?_) rfl (Or.inl ⟨by rfl, ?_⟩) ?_; rotate_left
      · intro w hSw; (try dsimp only at hSw); go_simp; try with_reducible rfl
      try simp only [Act.put, l1, l2, l3, l4, l5, l6]
      refine tk 14 (v := ?_) rfl (Or.inl ⟨by rfl, ?_⟩) ?_; rotate_left
      · intro w hSw; (try dsimp only at hSw); go_simp; try with_reducible rfl
      try simp only [Act.put, l1, l2, l3, l4, l5, l6]
      refine tk 15 (v := ?_) rfl (Or.inl ⟨by rfl, ?_⟩) ?_; rotate_left
      · intro w hSw; (try dsimp only at hSw); go_simp; try with_reducible rfl
      try simp only [Act.put, l1, l2, l3, l4, l5, l6]
      refine tk 16 (v := ?_) rfl (Or.inl ⟨by rfl, ?_⟩) ?_; rotate_left
      · intro w hSw; (try dsimp only at hSw); go_simp; try with_reducible rfl
      try simp only [Act.put, l1, l2, l3, l4, l5, l6]
      refine tk 17 (v := ?_) rfl (Or.inl ⟨by rfl, ?_⟩) ?_; rotate_left
      · intro w hSw; (try dsimp only at hSw); go_simp; try with_reducible rfl
      try simp only [Act.put, l1, l2, l3, l4, l5, l6]
      refine tk 18 (v := ?_) rfl (Or.inl ⟨by rfl, ?_⟩) ?_; rotate_left
      · intro w hSw; (try dsimp only at hSw); go_simp; try with_reducible rfl
      try simp only [Act.put, l1, l2, l3, l4, l5, l6]
      refine tk 19 (v := ?_) rfl (Or.inl ⟨by rfl, ?_⟩) ?_; rotate_left
      · intro w hSw; (try dsimp only at hSw); go_simp; try with_reducible rfl
      try simp only [Act.put, l1, l2, l3, l4, l5, l6]
      refine tk 20 (v := ?_) rfl (Or.inl ⟨by rfl, ?_⟩) ?_; rotate_left
      · intro w hSw; (try dsimp only at hSw); go_simp; try with_reducible rfl
      try simp only [Act.put, l1, l2, l3, l4, l5, l6]
      refine tk 21 (v := ?_) rfl (Or.inl ⟨by rfl, ?_⟩) ?_; rotate_left
      · intro w hSw; (try dsimp only at hSw); go_simp; try with_reducible rfl
      try simp only [Act.put, l1, l2, l3, l4, l5, l6]
      refine tk 22 (v := ?_) rfl (Or.inl ⟨by rfl, ?_⟩) ?_; rotate_left
      · intro w hSw; (try dsimp only at hSw); go_simp; try with_reducible rfl
      try simp only [Act.put, l1, l2, l3, l4, l5, l6]
      refine tk 23 (v := ?_) rfl (Or.inl ⟨by rfl, ?_⟩) ?_; rotate_left
      · intro w hSw; (try dsimp only at hSw); go_simp; try with_reducible rfl
      try simp only [Act.put, l1, l2, l3, l4, l5, l6]
      refine tk 24 (v := ?_) rfl (Or.inl ⟨by rfl, ?_⟩) ?_; rotate_left
      · intro w hSw; (try dsimp only at hSw); go_simp; try with_reducible rfl
      try simp only [Act.put, l1, l2, l3, l4, l5, l6]
      refine tk 25 (v := ?_) rfl (Or.inl ⟨by rfl, ?_⟩) ?_; rotate_left
      · intro w hSw; (try dsimp only at hSw); go_simp; try with_reducible rfl
      try simp only [Act.put, l1, l2, l3, l4, l5, l6]
      refine tk 26 (v := ?_) rfl (Or.inl ⟨by rfl, ?_⟩) ?_; rotate_left
      · intro w hSw; (try dsimp only at hSw); go_simp; try with_reducible rfl
      try simp only [Act.put, l1, l2, l3, l4, l5, l6]
      refine tk 27 (v := ?_) rfl (Or.inl ⟨by rfl, ?_⟩) ?_; rotate_left
      · intro w hSw; (try dsimp only at hSw); go_simp; try with_reducible rfl
      try simp only [Act.put, l1, l2, l3, l4, l5, l6]
      refine tk 28 (v := ?_) rfl (Or.inl ⟨by rfl, ?_⟩) ?_; rotate_left
      · intro w hSw; (try dsimp only at hSw); go_simp; try with_reducible rfl
      try simp only [Act.put, l1, l2, l3, l4, l5, l6]
      refine tk 29 (v := ?_) rfl (Or.inl ⟨by rfl, ?_⟩) ?_; rotate_left
      · intro w hSw; (try dsimp only at hSw); go_simp; try with_reducible rfl
      try simp only [Act.put, l1, l2, l3, l4, l5, l6]
      refine wpAnyH_done (by kernel_rfl) ?_ _
      clear hHeld
      obtain ⟨xs0, xsz0, xs1, xsz1, xs2, xsz2, xs3, xsz3, xs4, xsz4, xs5, xsz5⟩ := xs.f6
      obtain ⟨xd0, xdz0, xd1, xdz1, xd2, xdz2, xd3, xdz3, xd4, xdz4, xd5, xdz5⟩ := xd.f6
      go_wp2
      go_ret
      exact ⟨rfl, hB⟩
  | 1, _ =>
    have hb : (wrap64 (n.toNat : Int)).tmod 4 = 1 := hb
    have hs1 : sensor 1 = true := rfl
    have IA := iso_of hl.i hs1
    obtain ⟨b1, b2, b3⟩ := bits_iso hl.i 1 (by decide)
    rw [show ((2 : Int) ^ 1) = 2 from rfl] at b1 b2 b3
    have hE5 : deltaE s ⟨5, 1, 0, 0⟩ = if isIso s.iso 1 = false ∧ (soundN s.iso : Int) - 1 < needsN s.mode then 24 else 0 := by show isoE s 1 = _; unfold isoE; rw [hs1, if_neg (by decide)]; rfl
    have lC := delta_legal ⟨5, 1, 0, 0⟩ hl
    have hE6 : ∀ w : St, deltaE w ⟨6, 1, 0, 0⟩ = 0 := fun w => by show (if sensor 1 = false then 1 else 0) = _; rw [hs1, if_neg (by decide)]
    cases hi : isIso s.iso 1 with
    | false =>
      rw [hi] at b1
      by_cases hn : (soundN s.iso : Int) - 1 < needsN s.mode
      · rw [hi, if_pos ⟨rfl, hn⟩] at hE5
        have hR := delta_err (s := s) (c := ⟨5, 1, 0, 0⟩) (by rw [hE5]; decide)
        have T3 := Lib.hid (fun (V : World) => (show Calls Try.prog 13 #[.agg #[.int .i64 s.mode, .bool s.armed, .bool s.home, .int .i64 s.lat, .int .i64 s.lon, .int .i64 s.iso], .agg #[.int .i64 5, .int .i64 1, .float .f64 0, .float .f64 0]] V fun e W' => e = .returned (.tuple #[.agg #[.int .i64 s.mode, .bool s.armed, .bool s.home, .int .i64 s.lat, .int .i64 s.lon, .int .i64 s.iso], .int .i64 24]) ∧ Below V.heap.size V W' from by have h := own16Delta s ⟨5, 1, 0, 0⟩ V hl ⟨by decide, by decide, by show (0 : Nat) < 2 ^ 64; decide, by show (0 : Nat) < 2 ^ 64; decide⟩; rw [hE5, hR] at h; exact h))
        have T4 := Lib.hid (fun (V : World) => own16Delta s ⟨6, 1, 0, 0⟩ V hl ⟨by decide, by decide, by show (0 : Nat) < 2 ^ 64; decide, by show (0 : Nat) < 2 ^ 64; decide⟩)
        rw [hE6] at T4
        generalize deltaS s ⟨6, 1, 0, 0⟩ = w at *
        clear hE5 hE6 lC IA b1 b2 b3 hi hs1 hI hl hR hn
        obtain ⟨wm, wa, wh, wl, wo, wi⟩ := w
        dsimp only at T4
        go_wp2_with fail
        refine (T3.out _).mono ?_
        rintro e V8 ⟨rfl, hk⟩
        clear xs0 xsz0 xs1 xsz1 xs2 xsz2 xs3 xsz3 xs4 xsz4 xs5 xsz5 xb0 xbz0 xb1 xbz1 xb2 xbz2 xb3 xbz3 xb4 xbz4 xb5 xbz5
        replace hB := below_seq hB hk
        replace xs := xs.seq hk
        replace xb := xb.seq hk
        clear hk
        have xc := Box.new 23 V8 [.int .i64 s.mode, .bool s.armed, .bool s.home, .int .i64 s.lat, .int .i64 s.lon, .int .i64 s.iso]
        have ne_xc_xs : V8.heap.size ≠ W.heap.size := Nat.ne_of_gt xs.lt
        have le_xc : W.heap.size ≤ V8.heap.size := hB.size
        replace xs := xs.alloc (.cells #[.int .i64 s.mode, .bool s.armed, .bool s.home, .int .i64 s.lat, .int .i64 s.lon, .int .i64 s.iso] 23)
        replace hB := hB.alloc hB.size (.cells #[.int .i64 s.mode, .bool s.armed, .bool s.home, .int .i64 s.lat, .int .i64 s.lon, .int .i64 s.iso] 23)
        obtain ⟨xc0, xcz0, xc1, xcz1, xc2, xcz2, xc3, xcz3, xc4, xcz4, xc5, xcz5⟩ := xc.f6
        go_wp2_with fail
        refine (T4.out _).mono ?_
        rintro e V9 ⟨rfl, hk⟩
        clear xc0 xcz0 xc1 xcz1 xc2 xcz2 xc3 xcz3 xc4 xcz4 xc5 xcz5
        replace hB := below_seq hB hk
        replace xs := xs.seq hk
        replace xc := xc.seq hk
        clear hk
        have xd := Box.new 23 V9 [.int .i64 wm, .bool wa, .bool wh, .int .i64 wl, .int .i64 wo, .int .i64 wi]
        have ne_xd_xs : V9.heap.size ≠ W.heap.size := Nat.ne_of_gt xs.lt
        have le_xd : W.heap.size ≤ V9.heap.size := hB.size
        replace xs := xs.alloc (.cells #[.int .i64 wm, .bool wa, .bool wh, .int .i64 wl, .int .i64 wo, .int .i64 wi] 23)
        replace hB := hB.alloc hB.size (.cells #[.int .i64 wm, .bool wa, .bool wh, .int .i64 wl, .int .i64 wo, .int .i64 wi] 23)
        obtain ⟨xs0, xsz0, xs1, xsz1, xs2, xsz2, xs3, xsz3, xs4, xsz4, xs5, xsz5⟩ := xs.f6
        obtain ⟨xd0, xdz0, xd1, xdz1, xd2, xdz2, xd3, xdz3, xd4, xdz4, xd5, xdz5⟩ := xd.f6
        go_wp2_with fail
        clear xs0 xsz0 xs1 xsz1 xs2 xsz2 xs3 xsz3 xs4 xsz4 xs5 xsz5 xd0 xdz0 xd1 xdz1 xd2 xdz2 xd3 xdz3 xd4 xdz4 xd5 xdz5
        generalize (V9.alloc (.cells #[.int .i64 wm, .bool wa, .bool wh, .int .i64 wl, .int .i64 wo, .int .i64 wi] 23)) = V10 at *
        replace hB := hB.drew
        replace xs := xs.drew
        replace xd := xd.drew
        refine wp_region_held_drew (S := fun w' => w'.cell? ⟨W.heap.size, 0, none⟩ = some (.int .i64 s.mode) ∧ w'.cell? ⟨W.heap.size, 1, none⟩ = some (.bool s.armed) ∧ w'.cell? ⟨W.heap.size, 2, none⟩ = some (.bool s.home) ∧ w'.cell? ⟨W.heap.size, 3, none⟩ = some (.int .i64 s.lat) ∧ w'.cell? ⟨W.heap.size, 4, none⟩ = some (.int .i64 s.lon) ∧ w'.cell? ⟨W.heap.size, 5, none⟩ = some (.int .i64 s.iso) ∧ w'.cell? ⟨V9.heap.size, 0, none⟩ = some (.int .i64 wm) ∧ w'.cell? ⟨V9.heap.size, 1, none⟩ = some (.bool wa) ∧ w'.cell? ⟨V9.heap.size, 2, none⟩ = some (.bool wh) ∧ w'.cell? ⟨V9.heap.size, 3, none⟩ = some (.int .i64 wl) ∧ w'.cell? ⟨V9.heap.size, 4, none⟩ = some (.int .i64 wo) ∧ w'.cell? ⟨V9.heap.size, 5, none⟩ = some (.int .i64 wi)) (by kernel_rfl) ?_ (fun hHeld => ?_)
        · exact ⟨xs.cell 0 rfl, xs.cell 1 rfl, xs.cell 2 rfl, xs.cell 3 rfl, xs.cell 4 rfl, xs.cell 5 rfl, xd.cell 0 rfl, xd.cell 1 rfl, xd.cell 2 rfl, xd.cell 3 rfl, xd.cell 4 rfl, xd.cell 5 rfl⟩
        generalize V10.drew = V11 at *
        refine tk 0 (v := ?_) rfl (Or.inl ⟨by rfl, ?_⟩) ?_; rotate_left
        · intro w hSw; (try dsimp only at hSw); go_simp; try with_reducible rfl
        try simp only [Act.put, l1, l2, l3, l4, l5, l6]
        refine tk 1 (v := ?_) rfl (Or.inl ⟨by rfl, ?_⟩) ?_; rotate_left
        · intro w hSw; (try dsimp only at hSw); go_simp; try with_reducible rfl
        try simp only [Act.put, l1, l2, l3, l4, l5, l6]
        refine tk 2 (v := ?_) rfl (Or.inl ⟨by rfl, ?_⟩) ?_; rotate_left
        · intro w hSw; (try dsimp only at hSw); go_simp; try with_reducible rfl
        try simp only [Act.put, l1, l2, l3, l4, l5, l6]
        refine wpAnyH_take (i := 3) (v := undef) rfl (by kernel_rfl) (by kernel_rfl) (by kernel_rfl) (fun _ _ _ h => h) (Or.inr ⟨by rfl, rfl⟩) (by assumption) ?_
        try simp only [Act.put, l1, l2, l3, l4, l5, l6]
        refine wpAnyH_take (i := 4) (v := undef) rfl (by kernel_rfl) (by kernel_rfl) (by kernel_rfl) (fun _ _ _ h => h) (Or.inr ⟨by rfl, rfl⟩) (by assumption) ?_
        try simp only [Act.put, l1, l2, l3, l4, l5, l6]
        refine wpAnyH_take (i := 5) (v := undef) rfl (by kernel_rfl) (by kernel_rfl) (by kernel_rfl) (fun _ _ _ h => h) (Or.inr ⟨by rfl, rfl⟩) (by assumption) ?_
        try simp only [Act.put, l1, l2, l3, l4, l5, l6]
        refine wpAnyH_take (i := 6) (v := undef) rfl (by kernel_rfl) (by kernel_rfl) (by kernel_rfl) (fun _ _ _ h => h) (Or.inr ⟨by rfl, rfl⟩) (by assumption) ?_
        try simp only [Act.put, l1, l2, l3, l4, l5, l6]
        refine wpAnyH_take (i := 7) (v := undef) rfl (by kernel_rfl) (by kernel_rfl) (by kernel_rfl) (fun _ _ _ h => h) (Or.inr ⟨by rfl, rfl⟩) (by assumption) ?_
        try simp only [Act.put, l1, l2, l3, l4, l5, l6]
        refine wpAnyH_take (i := 8) (v := undef) rfl (by kernel_rfl) (by kernel_rfl) (by kernel_rfl) (fun _ _ _ h => h) (Or.inr ⟨by rfl, rfl⟩) (by assumption) ?_
        try simp only [Act.put, l1, l2, l3, l4, l5, l6]
        refine wpAnyH_take (i := 9) (v := undef) rfl (by kernel_rfl) (by kernel_rfl) (by kernel_rfl) (fun _ _ _ h => h) (Or.inr ⟨by rfl, rfl⟩) (by assumption) ?_
        try simp only [Act.put, l1, l2, l3, l4, l5, l6]
        refine wpAnyH_take (i := 10) (v := undef) rfl (by kernel_rfl) (by kernel_rfl) (by kernel_rfl) (fun _ _ _ h => h) (Or.inr ⟨by rfl, rfl⟩) (by assumption) ?_
        try simp only [Act.put, l1, l2, l3, l4, l5, l6]
        refine wpAnyH_take (i := 11) (v := undef) rfl (by kernel_rfl) (by kernel_rfl) (by kernel_rfl) (fun _ _ _ h => h) (Or.inr ⟨by rfl, rfl⟩) (by assumption) ?_
        try simp only [Act.put, l1, l2, l3, l4, l5, l6]
        refine wpAnyH_take (i := 12) (v := undef) rfl (by kernel_rfl) (by kernel_rfl) (by kernel_rfl) (fun _ _ _ h => h) (Or.inr ⟨by rfl, rfl⟩) (by assumption) ?_
        try simp only [Act.put, l1, l2, l3, l4, l5, l6]
        refine wpAnyH_take (i := 13) (v := undef) rfl (by kernel_rfl) (by kernel_rfl) (by kernel_rfl) (fun _ _ _ h => h) (Or.inr ⟨by rfl, rfl⟩) (by assumption) ?_
        try simp only [Act.put, l1, l2, l3, l4, l5, l6]
        refine wpAnyH_take (i := 14) (v := undef) rfl (by kernel_rfl) (by kernel_rfl) (by kernel_rfl) (fun _ _ _ h => h) (Or.inr ⟨by rfl, rfl⟩) (by assumption) ?_
        try simp only [Act.put, l1, l2, l3, l4, l5, l6]
        refine wpAnyH_take (i := 15) (v := undef) rfl (by kernel_rfl) (by kernel_rfl) (by kernel_rfl) (fun _ _ _ h => h) (Or.inr ⟨by rfl, rfl⟩) (by assumption) ?_
        try simp only [Act.put, l1, l2, l3, l4, l5, l6]
        refine wpAnyH_take (i := 16) (v := undef) rfl (by kernel_rfl) (by kernel_rfl) (by kernel_rfl) (fun _ _ _ h => h) (Or.inr ⟨by rfl, rfl⟩) (by assumption) ?_
        try simp only [Act.put, l1, l2, l3, l4, l5, l6]
        refine wpAnyH_take (i := 17) (v := undef) rfl (by kernel_rfl) (by kernel_rfl) (by kernel_rfl) (fun _ _ _ h => h) (Or.inr ⟨by rfl, rfl⟩) (by assumption) ?_
        try simp only [Act.put, l1, l2, l3, l4, l5, l6]
        refine wpAnyH_take (i := 18) (v := undef) rfl (by kernel_rfl) (by kernel_rfl) (by kernel_rfl) (fun _ _ _ h => h) (Or.inr ⟨by rfl, rfl⟩) (by assumption) ?_
        try simp only [Act.put, l1, l2, l3, l4, l5, l6]
        refine wpAnyH_take (i := 19) (v := undef) rfl (by kernel_rfl) (by kernel_rfl) (by kernel_rfl) (fun _ _ _ h => h) (Or.inr ⟨by rfl, rfl⟩) (by assumption) ?_
        try simp only [Act.put, l1, l2, l3, l4, l5, l6]
        refine wpAnyH_take (i := 20) (v := undef) rfl (by kernel_rfl) (by kernel_rfl) (by kernel_rfl) (fun _ _ _ h => h) (Or.inr ⟨by rfl, rfl⟩) (by assumption) ?_
        try simp only [Act.put, l1, l2, l3, l4, l5, l6]
        refine wpAnyH_take (i := 21) (v := undef) rfl (by kernel_rfl) (by kernel_rfl) (by kernel_rfl) (fun _ _ _ h => h) (Or.inr ⟨by rfl, rfl⟩) (by assumption) ?_
        try simp only [Act.put, l1, l2, l3, l4, l5, l6]
        refine wpAnyH_take (i := 22) (v := undef) rfl (by kernel_rfl) (by kernel_rfl) (by kernel_rfl) (fun _ _ _ h => h) (Or.inr ⟨by rfl, rfl⟩) (by assumption) ?_
        try simp only [Act.put, l1, l2, l3, l4, l5, l6]
        refine wpAnyH_take (i := 23) (v := undef) rfl (by kernel_rfl) (by kernel_rfl) (by kernel_rfl) (fun _ _ _ h => h) (Or.inr ⟨by rfl, rfl⟩) (by assumption) ?_
        try simp only [Act.put, l1, l2, l3, l4, l5, l6]
        refine wpAnyH_take (i := 24) (v := undef) rfl (by kernel_rfl) (by kernel_rfl) (by kernel_rfl) (fun _ _ _ h => h) (Or.inr ⟨by rfl, rfl⟩) (by assumption) ?_
        try simp only [Act.put, l1, l2, l3, l4, l5, l6]
        refine wpAnyH_take (i := 25) (v := undef) rfl (by kernel_rfl) (by kernel_rfl) (by kernel_rfl) (fun _ _ _ h => h) (Or.inr ⟨by rfl, rfl⟩) (by assumption) ?_
        try simp only [Act.put, l1, l2, l3, l4, l5, l6]
        refine wpAnyH_take (i := 26) (v := undef) rfl (by kernel_rfl) (by kernel_rfl) (by kernel_rfl) (fun _ _ _ h => h) (Or.inr ⟨by rfl, rfl⟩) (by assumption) ?_
        try simp only [Act.put, l1, l2, l3, l4, l5, l6]
        refine wpAnyH_take (i := 27) (v := undef) rfl (by kernel_rfl) (by kernel_rfl) (by kernel_rfl) (fun _ _ _ h => h) (Or.inr ⟨by rfl, rfl⟩) (by assumption) ?_
        try simp only [Act.put, l1, l2, l3, l4, l5, l6]
        refine tk 28 (v := ?_) rfl (Or.inl ⟨by rfl, ?_⟩) ?_; rotate_left
        · intro w hSw; (try dsimp only at hSw); go_simp; try with_reducible rfl
        try simp only [Act.put, l1, l2, l3, l4, l5, l6]
        refine tk 29 (v := ?_) rfl (Or.inl ⟨by rfl, ?_⟩) ?_; rotate_left
        · intro w hSw; (try dsimp only at hSw); go_simp; try with_reducible rfl
        try simp only [Act.put, l1, l2, l3, l4, l5, l6]
        refine wpAnyH_done (by kernel_rfl) ?_ _
        clear hHeld
        obtain ⟨xs0, xsz0, xs1, xsz1, xs2, xsz2, xs3, xsz3, xs4, xsz4, xs5, xsz5⟩ := xs.f6
        obtain ⟨xd0, xdz0, xd1, xdz1, xd2, xdz2, xd3, xdz3, xd4, xdz4, xd5, xdz5⟩ := xd.f6
        go_wp2
        go_ret
        exact ⟨rfl, hB⟩
      · rw [hi, if_neg (fun k => hn k.2)] at hE5
        have hR : deltaS s ⟨5, 1, 0, 0⟩ = setIso s (orI s.iso 1) := delta_done hE5
        have T3 := Lib.hid (fun (V : World) => (show Calls Try.prog 13 #[.agg #[.int .i64 s.mode, .bool s.armed, .bool s.home, .int .i64 s.lat, .int .i64 s.lon, .int .i64 s.iso], .agg #[.int .i64 5, .int .i64 1, .float .f64 0, .float .f64 0]] V fun e W' => e = .returned (.tuple #[.agg #[.int .i64 s.mode, .bool s.armed, .bool s.home, .int .i64 s.lat, .int .i64 s.lon, .int .i64 (orI s.iso 1)], .int .i64 0]) ∧ Below V.heap.size V W' from by have h := own16Delta s ⟨5, 1, 0, 0⟩ V hl ⟨by decide, by decide, by show (0 : Nat) < 2 ^ 64; decide, by show (0 : Nat) < 2 ^ 64; decide⟩; rw [hE5, hR] at h; exact h))
        rw [hR] at lC
        have hX : deltaS (setIso s (orI s.iso 1)) ⟨6, 1, 0, 0⟩ = s := by
          rw [delta_done (hE6 _)]
          show setIso s (clI (orI s.iso 1) 1) = s
          have e1 : clI (orI s.iso 1) 1 = clI s.iso 1 := IA.co
          have e2 : clI s.iso 1 = s.iso := IA.cn hi
          rw [e1, e2]; rfl
        have T4 := Lib.hid (fun (V : World) => (show Calls Try.prog 13 #[.agg #[.int .i64 s.mode, .bool s.armed, .bool s.home, .int .i64 s.lat, .int .i64 s.lon, .int .i64 (orI s.iso 1)], .agg #[.int .i64 6, .int .i64 1, .float .f64 0, .float .f64 0]] V fun e W' => e = .returned (.tuple #[.agg #[.int .i64 s.mode, .bool s.armed, .bool s.home, .int .i64 s.lat, .int .i64 s.lon, .int .i64 s.iso], .int .i64 0]) ∧ Below V.heap.size V W' from by have h := own16Delta (setIso s (orI s.iso 1)) ⟨6, 1, 0, 0⟩ V lC ⟨by decide, by decide, by show (0 : Nat) < 2 ^ 64; decide, by show (0 : Nat) < 2 ^ 64; decide⟩; rw [hE6, hX] at h; exact h))
        clear hE5 hE6 lC IA b1 b2 b3 hi hs1 hI hl hR hn hX
        generalize orI s.iso 1 = y at *
        go_wp2_with fail
        refine (T3.out _).mono ?_
        rintro e V8 ⟨rfl, hk⟩
        clear xs0 xsz0 xs1 xsz1 xs2 xsz2 xs3 xsz3 xs4 xsz4 xs5 xsz5 xb0 xbz0 xb1 xbz1 xb2 xbz2 xb3 xbz3 xb4 xbz4 xb5 xbz5
        replace hB := below_seq hB hk
        replace xs := xs.seq hk
        replace xb := xb.seq hk
        clear hk
        have xc := Box.new 23 V8 [.int .i64 s.mode, .bool s.armed, .bool s.home, .int .i64 s.lat, .int .i64 s.lon, .int .i64 y]
        have ne_xc_xs : V8.heap.size ≠ W.heap.size := Nat.ne_of_gt xs.lt
        have le_xc : W.heap.size ≤ V8.heap.size := hB.size
        replace xs := xs.alloc (.cells #[.int .i64 s.mode, .bool s.armed, .bool s.home, .int .i64 s.lat, .int .i64 s.lon, .int .i64 y] 23)
        replace hB := hB.alloc hB.size (.cells #[.int .i64 s.mode, .bool s.armed, .bool s.home, .int .i64 s.lat, .int .i64 s.lon, .int .i64 y] 23)
        obtain ⟨xc0, xcz0, xc1, xcz1, xc2, xcz2, xc3, xcz3, xc4, xcz4, xc5, xcz5⟩ := xc.f6
        go_wp2_with fail
        refine (T4.out _).mono ?_
        rintro e V9 ⟨rfl, hk⟩
        clear xc0 xcz0 xc1 xcz1 xc2 xcz2 xc3 xcz3 xc4 xcz4 xc5 xcz5
        replace hB := below_seq hB hk
        replace xs := xs.seq hk
        replace xc := xc.seq hk
        clear hk
        have xd := Box.new 23 V9 [.int .i64 s.mode, .bool s.armed, .bool s.home, .int .i64 s.lat, .int .i64 s.lon, .int .i64 s.iso]
        have ne_xd_xs : V9.heap.size ≠ W.heap.size := Nat.ne_of_gt xs.lt
        have le_xd : W.heap.size ≤ V9.heap.size := hB.size
        replace xs := xs.alloc (.cells #[.int .i64 s.mode, .bool s.armed, .bool s.home, .int .i64 s.lat, .int .i64 s.lon, .int .i64 s.iso] 23)
        replace hB := hB.alloc hB.size (.cells #[.int .i64 s.mode, .bool s.armed, .bool s.home, .int .i64 s.lat, .int .i64 s.lon, .int .i64 s.iso] 23)
        obtain ⟨xs0, xsz0, xs1, xsz1, xs2, xsz2, xs3, xsz3, xs4, xsz4, xs5, xsz5⟩ := xs.f6
        obtain ⟨xd0, xdz0, xd1, xdz1, xd2, xdz2, xd3, xdz3, xd4, xdz4, xd5, xdz5⟩ := xd.f6
        go_wp2_with fail
        clear xs0 xsz0 xs1 xsz1 xs2 xsz2 xs3 xsz3 xs4 xsz4 xs5 xsz5 xd0 xdz0 xd1 xdz1 xd2 xdz2 xd3 xdz3 xd4 xdz4 xd5 xdz5
        generalize (V9.alloc (.cells #[.int .i64 s.mode, .bool s.armed, .bool s.home, .int .i64 s.lat, .int .i64 s.lon, .int .i64 s.iso] 23)) = V10 at *
        replace hB := hB.drew
        replace xs := xs.drew
        replace xd := xd.drew
        refine wp_region_held_drew (S := fun w' => w'.cell? ⟨W.heap.size, 0, none⟩ = some (.int .i64 s.mode) ∧ w'.cell? ⟨W.heap.size, 1, none⟩ = some (.bool s.armed) ∧ w'.cell? ⟨W.heap.size, 2, none⟩ = some (.bool s.home) ∧ w'.cell? ⟨W.heap.size, 3, none⟩ = some (.int .i64 s.lat) ∧ w'.cell? ⟨W.heap.size, 4, none⟩ = some (.int .i64 s.lon) ∧ w'.cell? ⟨W.heap.size, 5, none⟩ = some (.int .i64 s.iso) ∧ w'.cell? ⟨V9.heap.size, 0, none⟩ = some (.int .i64 s.mode) ∧ w'.cell? ⟨V9.heap.size, 1, none⟩ = some (.bool s.armed) ∧ w'.cell? ⟨V9.heap.size, 2, none⟩ = some (.bool s.home) ∧ w'.cell? ⟨V9.heap.size, 3, none⟩ = some (.int .i64 s.lat) ∧ w'.cell? ⟨V9.heap.size, 4, none⟩ = some (.int .i64 s.lon) ∧ w'.cell? ⟨V9.heap.size, 5, none⟩ = some (.int .i64 s.iso)) (by kernel_rfl) ?_ (fun hHeld => ?_)
        · exact ⟨xs.cell 0 rfl, xs.cell 1 rfl, xs.cell 2 rfl, xs.cell 3 rfl, xs.cell 4 rfl, xs.cell 5 rfl, xd.cell 0 rfl, xd.cell 1 rfl, xd.cell 2 rfl, xd.cell 3 rfl, xd.cell 4 rfl, xd.cell 5 rfl⟩
        generalize V10.drew = V11 at *
        refine tk 0 (v := ?_) rfl (Or.inl ⟨by rfl, ?_⟩) ?_; rotate_left
        · intro w hSw; (try dsimp only at hSw); go_simp; try with_reducible rfl
        try simp only [Act.put, l1, l2, l3, l4, l5, l6]
        refine tk 1 (v := ?_) rfl (Or.inl ⟨by rfl, ?_⟩) ?_; rotate_left
        · intro w hSw; (try dsimp only at hSw); go_simp; try with_reducible rfl
        try simp only [Act.put, l1, l2, l3, l4, l5, l6]
        refine tk 2 (v := ?_) rfl (Or.inl ⟨by rfl, ?_⟩) ?_; rotate_left
        · intro w hSw; (try dsimp only at hSw); go_simp; try with_reducible rfl
        try simp only [Act.put, l1, l2, l3, l4, l5, l6]
        refine tk 3 (v := ?_) rfl (Or.inl ⟨by rfl, ?_⟩) ?_; rotate_left
        · intro w hSw; (try dsimp only at hSw); go_simp; try with_reducible rfl
        try simp only [Act.put, l1, l2, l3, l4, l5, l6]
        refine tk 4 (v := ?_) rfl (Or.inl ⟨by rfl, ?_⟩) ?_; rotate_left
        · intro w hSw; (try dsimp only at hSw); go_simp; try with_reducible rfl
        try simp only [Act.put, l1, l2, l3, l4, l5, l6]
        refine tk 5 (v := ?_) rfl (Or.inl ⟨by rfl, ?_⟩) ?_; rotate_left
        · intro w hSw; (try dsimp only at hSw); go_simp; try with_reducible rfl
        try simp only [Act.put, l1, l2, l3, l4, l5, l6]
        refine tk 6 (v := ?_) rfl (Or.inl ⟨by rfl, ?_⟩) ?_; rotate_left
        · intro w hSw; (try dsimp only at hSw); go_simp; try with_reducible rfl
        try simp only [Act.put, l1, l2, l3, l4, l5, l6]
        refine tk 7 (v := ?_) rfl (Or.inl ⟨by rfl, ?_⟩) ?_; rotate_left
        · intro w hSw; (try dsimp only at hSw); go_simp; try with_reducible rfl
        try simp only [Act.put, l1, l2, l3, l4, l5, l6]
        refine tk 8 (v := ?_) rfl (Or.inl ⟨by rfl, ?_⟩) ?_; rotate_left
        · intro w hSw; (try dsimp only at hSw); go_simp; try with_reducible rfl
        try simp only [Act.put, l1, l2, l3, l4, l5, l6]
        refine tk 9 (v := ?_) rfl (Or.inl ⟨by rfl, ?_⟩) ?_; rotate_left
        · intro w hSw; (try dsimp only at hSw); go_simp; try with_reducible rfl
        try simp only [Act.put, l1, l2, l3, l4, l5, l6]
        refine wpAnyH_take (i := 10) (v := undef) rfl (by kernel_rfl) (by kernel_rfl) (by kernel_rfl) (fun _ _ _ h => h) (Or.inr ⟨by rfl, rfl⟩) (by assumption) ?_
        try simp only [Act.put, l1, l2, l3, l4, l5, l6]
        refine wpAnyH_take (i := 11) (v := undef) rfl (by kernel_rfl) (by kernel_rfl) (by kernel_rfl) (fun _ _ _ h => h) (Or.inr ⟨by rfl, rfl⟩) (by assumption) ?_
        try simp only [Act.put, l1, l2, l3, l4, l5, l6]
        refine wpAnyH_take (i := 12) (v := undef) rfl (by kernel_rfl) (by kernel_rfl) (by kernel_rfl) (fun _ _ _ h => h) (Or.inr ⟨by rfl, rfl⟩) (by assumption) ?_
        try simp only [Act.put, l1, l2, l3, l4, l5, l6]
        refine wpAnyH_take (i := 13) (v := undef) rfl (by kernel_rfl) (by kernel_rfl) (by kernel_rfl) (fun _ _ _ h => h) (Or.inr ⟨by rfl, rfl⟩) (by assumption) ?_
        try simp only [Act.put, l1, l2, l3, l4, l5, l6]
        refine wpAnyH_take (i := 14) (v := undef) rfl (by kernel_rfl) (by kernel_rfl) (by kernel_rfl) (fun _ _ _ h => h) (Or.inr ⟨by rfl, rfl⟩) (by assumption) ?_
        try simp only [Act.put, l1, l2, l3, l4, l5, l6]
        refine wpAnyH_take (i := 15) (v := undef) rfl (by kernel_rfl) (by kernel_rfl) (by kernel_rfl) (fun _ _ _ h => h) (Or.inr ⟨by rfl, rfl⟩) (by assumption) ?_
        try simp only [Act.put, l1, l2, l3, l4, l5, l6]
        refine wpAnyH_take (i := 16) (v := undef) rfl (by kernel_rfl) (by kernel_rfl) (by kernel_rfl) (fun _ _ _ h => h) (Or.inr ⟨by rfl, rfl⟩) (by assumption) ?_
        try simp only [Act.put, l1, l2, l3, l4, l5, l6]
        refine wpAnyH_take (i := 17) (v := undef) rfl (by kernel_rfl) (by kernel_rfl) (by kernel_rfl) (fun _ _ _ h => h) (Or.inr ⟨by rfl, rfl⟩) (by assumption) ?_
        try simp only [Act.put, l1, l2, l3, l4, l5, l6]
        refine wpAnyH_take (i := 18) (v := undef) rfl (by kernel_rfl) (by kernel_rfl) (by kernel_rfl) (fun _ _ _ h => h) (Or.inr ⟨by rfl, rfl⟩) (by assumption) ?_
        try simp only [Act.put, l1, l2, l3, l4, l5, l6]
        refine wpAnyH_take (i := 19) (v := undef) rfl (by kernel_rfl) (by kernel_rfl) (by kernel_rfl) (fun _ _ _ h => h) (Or.inr ⟨by rfl, rfl⟩) (by assumption) ?_
        try simp only [Act.put, l1, l2, l3, l4, l5, l6]
        refine wpAnyH_take (i := 20) (v := undef) rfl (by kernel_rfl) (by kernel_rfl) (by kernel_rfl) (fun _ _ _ h => h) (Or.inr ⟨by rfl, rfl⟩) (by assumption) ?_
        try simp only [Act.put, l1, l2, l3, l4, l5, l6]
        refine wpAnyH_take (i := 21) (v := undef) rfl (by kernel_rfl) (by kernel_rfl) (by kernel_rfl) (fun _ _ _ h => h) (Or.inr ⟨by rfl, rfl⟩) (by assumption) ?_
        try simp only [Act.put, l1, l2, l3, l4, l5, l6]
        refine wpAnyH_take (i := 22) (v := undef) rfl (by kernel_rfl) (by kernel_rfl) (by kernel_rfl) (fun _ _ _ h => h) (Or.inr ⟨by rfl, rfl⟩) (by assumption) ?_
        try simp only [Act.put, l1, l2, l3, l4, l5, l6]
        refine wpAnyH_take (i := 23) (v := undef) rfl (by kernel_rfl) (by kernel_rfl) (by kernel_rfl) (fun _ _ _ h => h) (Or.inr ⟨by rfl, rfl⟩) (by assumption) ?_
        try simp only [Act.put, l1, l2, l3, l4, l5, l6]
        refine wpAnyH_take (i := 24) (v := undef) rfl (by kernel_rfl) (by kernel_rfl) (by kernel_rfl) (fun _ _ _ h => h) (Or.inr ⟨by rfl, rfl⟩) (by assumption) ?_
        try simp only [Act.put, l1, l2, l3, l4, l5, l6]
        refine wpAnyH_take (i := 25) (v := undef) rfl (by kernel_rfl) (by kernel_rfl) (by kernel_rfl) (fun _ _ _ h => h) (Or.inr ⟨by rfl, rfl⟩) (by assumption) ?_
        try simp only [Act.put, l1, l2, l3, l4, l5, l6]
        refine tk 26 (v := ?_) rfl (Or.inl ⟨by rfl, ?_⟩) ?_; rotate_left
        · intro w hSw; (try dsimp only at hSw); go_simp; try with_reducible rfl
        try simp only [Act.put, l1, l2, l3, l4, l5, l6]
        refine tk 27 (v := ?_) rfl (Or.inl ⟨by rfl, ?_⟩) ?_; rotate_left
        · intro w hSw; (try dsimp only at hSw); go_simp; try with_reducible rfl
        try simp only [Act.put, l1, l2, l3, l4, l5, l6]
        refine tk 28 (v := ?_) rfl (Or.inl ⟨by rfl, ?_⟩) ?_; rotate_left
        · intro w hSw; (try dsimp only at hSw); go_simp; try with_reducible rfl
        try simp only [Act.put, l1, l2, l3, l4, l5, l6]
        refine tk 29 (v := ?_) rfl (Or.inl ⟨by rfl, ?_⟩) ?_; rotate_left
        · intro w hSw; (try dsimp only at hSw); go_simp; try with_reducible rfl
        try simp only [Act.put, l1, l2, l3, l4, l5, l6]
        refine wpAnyH_done (by kernel_rfl) ?_ _
        clear hHeld
        obtain ⟨xs0, xsz0, xs1, xsz1, xs2, xsz2, xs3, xsz3, xs4, xsz4, xs5, xsz5⟩ := xs.f6
        obtain ⟨xd0, xdz0, xd1, xdz1, xd2, xdz2, xd3, xdz3, xd4, xdz4, xd5, xdz5⟩ := xd.f6
        go_wp2
        go_ret
        exact ⟨rfl, hB⟩
    | true =>
      rw [hi, if_neg (fun k => by cases k.1)] at hE5
      have e1 : orI s.iso 1 = s.iso := (IA.of hi).1
      have hR : deltaS s ⟨5, 1, 0, 0⟩ = s := by
        rw [delta_done hE5]
        show setIso s (orI s.iso 1) = s
        rw [e1]; rfl
      have T3 := Lib.hid (fun (V : World) => (show Calls Try.prog 13 #[.agg #[.int .i64 s.mode, .bool s.armed, .bool s.home, .int .i64 s.lat, .int .i64 s.lon, .int .i64 s.iso], .agg #[.int .i64 5, .int .i64 1, .float .f64 0, .float .f64 0]] V fun e W' => e = .returned (.tuple #[.agg #[.int .i64 s.mode, .bool s.armed, .bool s.home, .int .i64 s.lat, .int .i64 s.lon, .int .i64 s.iso], .int .i64 0]) ∧ Below V.heap.size V W' from by have h := own16Delta s ⟨5, 1, 0, 0⟩ V hl ⟨by decide, by decide, by show (0 : Nat) < 2 ^ 64; decide, by show (0 : Nat) < 2 ^ 64; decide⟩; rw [hE5, hR] at h; exact h))
      have T4 := Lib.hid (fun (V : World) => (show Calls Try.prog 13 #[.agg #[.int .i64 s.mode, .bool s.armed, .bool s.home, .int .i64 s.lat, .int .i64 s.lon, .int .i64 s.iso], .agg #[.int .i64 6, .int .i64 1, .float .f64 0, .float .f64 0]] V fun e W' => e = .returned (.tuple #[.agg #[.int .i64 s.mode, .bool s.armed, .bool s.home, .int .i64 s.lat, .int .i64 s.lon, .int .i64 (clI s.iso 1)], .int .i64 0]) ∧ Below V.heap.size V W' from by have h := own16Delta s ⟨6, 1, 0, 0⟩ V hl ⟨by decide, by decide, by show (0 : Nat) < 2 ^ 64; decide, by show (0 : Nat) < 2 ^ 64; decide⟩; rw [hE6, delta_done (hE6 s)] at h; exact h))
      have d1 : ¬ clI s.iso 1 = s.iso := fun k => by
        have h2 : isIso (clI s.iso 1) 1 = false := IA.ic
        rw [k, hi] at h2; cases h2
      have d3 := i64_and1 (s.iso / 2 ^ 1)
      have d5 : IntKind.i64.wrap 2 = 2 := IntWalk.i64_in _ (by decide)
      have d2 : s.iso / 2 ^ 1 % 2 = 1 := by unfold isIso at hi; exact of_decide_eq_true hi
      rw [d2] at d3
      rw [show ((2 : Int) ^ 1) = 2 from rfl] at d3
      clear hE5 hE6 lC IA b1 b2 hi hs1 hI hl hR e1 d2
      generalize clI s.iso 1 = y at *
      go_wp2_with fail
      refine (T3.out _).mono ?_
      rintro e V8 ⟨rfl, hk⟩
      clear xs0 xsz0 xs1 xsz1 xs2 xsz2 xs3 xsz3 xs4 xsz4 xs5 xsz5 xb0 xbz0 xb1 xbz1 xb2 xbz2 xb3 xbz3 xb4 xbz4 xb5 xbz5
      replace hB := below_seq hB hk
      replace xs := xs.seq hk
      replace xb := xb.seq hk
      clear hk
      have xc := Box.new 23 V8 [.int .i64 s.mode, .bool s.armed, .bool s.home, .int .i64 s.lat, .int .i64 s.lon, .int .i64 s.iso]
      have ne_xc_xs : V8.heap.size ≠ W.heap.size := Nat.ne_of_gt xs.lt
      have le_xc : W.heap.size ≤ V8.heap.size := hB.size
      replace xs := xs.alloc (.cells #[.int .i64 s.mode, .bool s.armed, .bool s.home, .int .i64 s.lat, .int .i64 s.lon, .int .i64 s.iso] 23)
      replace hB := hB.alloc hB.size (.cells #[.int .i64 s.mode, .bool s.armed, .bool s.home, .int .i64 s.lat, .int .i64 s.lon, .int .i64 s.iso] 23)
      obtain ⟨xc0, xcz0, xc1, xcz1, xc2, xcz2, xc3, xcz3, xc4, xcz4, xc5, xcz5⟩ := xc.f6
      go_wp2_with fail
      refine (T4.out _).mono ?_
      rintro e V9 ⟨rfl, hk⟩
      clear xc0 xcz0 xc1 xcz1 xc2 xcz2 xc3 xcz3 xc4 xcz4 xc5 xcz5
      replace hB := below_seq hB hk
      replace xs := xs.seq hk
      replace xc := xc.seq hk
      clear hk
      have xd := Box.new 23 V9 [.int .i64 s.mode, .bool s.armed, .bool s.home, .int .i64 s.lat, .int .i64 s.lon, .int .i64 y]
      have ne_xd_xs : V9.heap.size ≠ W.heap.size := Nat.ne_of_gt xs.lt
      have le_xd : W.heap.size ≤ V9.heap.size := hB.size
      replace xs := xs.alloc (.cells #[.int .i64 s.mode, .bool s.armed, .bool s.home, .int .i64 s.lat, .int .i64 s.lon, .int .i64 y] 23)
      replace hB := hB.alloc hB.size (.cells #[.int .i64 s.mode, .bool s.armed, .bool s.home, .int .i64 s.lat, .int .i64 s.lon, .int .i64 y] 23)
      obtain ⟨xs0, xsz0, xs1, xsz1, xs2, xsz2, xs3, xsz3, xs4, xsz4, xs5, xsz5⟩ := xs.f6
      obtain ⟨xd0, xdz0, xd1, xdz1, xd2, xdz2, xd3, xdz3, xd4, xdz4, xd5, xdz5⟩ := xd.f6
      go_wp2_with fail
      clear xs0 xsz0 xs1 xsz1 xs2 xsz2 xs3 xsz3 xs4 xsz4 xs5 xsz5 xd0 xdz0 xd1 xdz1 xd2 xdz2 xd3 xdz3 xd4 xdz4 xd5 xdz5
      generalize (V9.alloc (.cells #[.int .i64 s.mode, .bool s.armed, .bool s.home, .int .i64 s.lat, .int .i64 s.lon, .int .i64 y] 23)) = V10 at *
      replace hB := hB.drew
      replace xs := xs.drew
      replace xd := xd.drew
      refine wp_region_held_drew (S := fun w' => w'.cell? ⟨W.heap.size, 0, none⟩ = some (.int .i64 s.mode) ∧ w'.cell? ⟨W.heap.size, 1, none⟩ = some (.bool s.armed) ∧ w'.cell? ⟨W.heap.size, 2, none⟩ = some (.bool s.home) ∧ w'.cell? ⟨W.heap.size, 3, none⟩ = some (.int .i64 s.lat) ∧ w'.cell? ⟨W.heap.size, 4, none⟩ = some (.int .i64 s.lon) ∧ w'.cell? ⟨W.heap.size, 5, none⟩ = some (.int .i64 s.iso) ∧ w'.cell? ⟨V9.heap.size, 0, none⟩ = some (.int .i64 s.mode) ∧ w'.cell? ⟨V9.heap.size, 1, none⟩ = some (.bool s.armed) ∧ w'.cell? ⟨V9.heap.size, 2, none⟩ = some (.bool s.home) ∧ w'.cell? ⟨V9.heap.size, 3, none⟩ = some (.int .i64 s.lat) ∧ w'.cell? ⟨V9.heap.size, 4, none⟩ = some (.int .i64 s.lon) ∧ w'.cell? ⟨V9.heap.size, 5, none⟩ = some (.int .i64 y)) (by kernel_rfl) ?_ (fun hHeld => ?_)
      · exact ⟨xs.cell 0 rfl, xs.cell 1 rfl, xs.cell 2 rfl, xs.cell 3 rfl, xs.cell 4 rfl, xs.cell 5 rfl, xd.cell 0 rfl, xd.cell 1 rfl, xd.cell 2 rfl, xd.cell 3 rfl, xd.cell 4 rfl, xd.cell 5 rfl⟩
      generalize V10.drew = V11 at *
      refine tk 0 (v := ?_) rfl (Or.inl ⟨by rfl, ?_⟩) ?_; rotate_left
      · intro w hSw; (try dsimp only at hSw); go_simp; try with_reducible rfl
      try simp only [Act.put, l1, l2, l3, l4, l5, l6]
      refine tk 1 (v := ?_) rfl (Or.inl ⟨by rfl, ?_⟩) ?_; rotate_left
      · intro w hSw; (try dsimp only at hSw); go_simp; try with_reducible rfl
      try simp only [Act.put, l1, l2, l3, l4, l5, l6]
      refine tk 2 (v := ?_) rfl (Or.inl ⟨by rfl, ?_⟩) ?_; rotate_left
      · intro w hSw; (try dsimp only at hSw); go_simp; try with_reducible rfl
      try simp only [Act.put, l1, l2, l3, l4, l5, l6]
      refine tk 3 (v := ?_) rfl (Or.inl ⟨by rfl, ?_⟩) ?_; rotate_left
      · intro w hSw; (try dsimp only at hSw); go_simp; try with_reducible rfl
      try simp only [Act.put, l1, l2, l3, l4, l5, l6]
      refine tk 4 (v := ?_) rfl (Or.inl ⟨by rfl, ?_⟩) ?_; rotate_left
      · intro w hSw; (try dsimp only at hSw); go_simp; try with_reducible rfl
      try simp only [Act.put, l1, l2, l3, l4, l5, l6]
      refine tk 5 (v := ?_) rfl (Or.inl ⟨by rfl, ?_⟩) ?_; rotate_left
      · intro w hSw; (try dsimp only at hSw); go_simp; try with_reducible rfl
      try simp only [Act.put, l1, l2, l3, l4, l5, l6]
      refine tk 6 (v := ?_) rfl (Or.inl ⟨by rfl, ?_⟩) ?_; rotate_left
      · intro w hSw; (try dsimp only at hSw); go_simp; try with_reducible rfl
      try simp only [Act.put, l1, l2, l3, l4, l5, l6]
      refine tk 7 (v := ?_) rfl (Or.inl ⟨by rfl, ?_⟩) ?_; rotate_left
      · intro w hSw; (try dsimp only at hSw); go_simp; try with_reducible rfl
      try simp only [Act.put, l1, l2, l3, l4, l5, l6]
      refine tk 8 (v := ?_) rfl (Or.inl ⟨by rfl, ?_⟩) ?_; rotate_left
      · intro w hSw; (try dsimp only at hSw); go_simp; try with_reducible rfl
      try simp only [Act.put, l1, l2, l3, l4, l5, l6]
      refine tk 9 (v := ?_) rfl (Or.inl ⟨by rfl, ?_⟩) ?_; rotate_left
      · intro w hSw; (try dsimp only at hSw); go_simp; try with_reducible rfl
      try simp only [Act.put, l1, l2, l3, l4, l5, l6]
      refine tk 10 (v := ?_) rfl (Or.inl ⟨by rfl, ?_⟩) ?_; rotate_left
      · intro w hSw; (try dsimp only at hSw); go_simp; try with_reducible rfl
      try simp only [Act.put, l1, l2, l3, l4, l5, l6]
      refine tk 11 (v := ?_) rfl (Or.inl ⟨by rfl, ?_⟩) ?_; rotate_left
      · intro w hSw; (try dsimp only at hSw); go_simp; try with_reducible rfl
      try simp only [Act.put, l1, l2, l3, l4, l5, l6]
      refine tk 12 (v := ?_) rfl (Or.inl ⟨by rfl, ?_⟩) ?_; rotate_left
      · intro w hSw; (try dsimp only at hSw); go_simp; try with_reducible rfl
      try simp only [Act.put, l1, l2, l3, l4, l5, l6]
      refine tk 13 (v := ?_) rfl (Or.inl ⟨by rfl, ?_⟩) ?_; rotate_left
      · intro w hSw; (try dsimp only at hSw); go_simp; try with_reducible rfl
      try simp only [Act.put, l1, l2, l3, l4, l5, l6]
      refine tk 14 (v := ?_) rfl (Or.inl ⟨by rfl, ?_⟩) ?_; rotate_left
      · intro w hSw; (try dsimp only at hSw); go_simp; try with_reducible rfl
      try simp only [Act.put, l1, l2, l3, l4, l5, l6]
      refine tk 15 (v := ?_) rfl (Or.inl ⟨by rfl, ?_⟩) ?_; rotate_left
      · intro w hSw; (try dsimp only at hSw); go_simp; try with_reducible rfl
      try simp only [Act.put, l1, l2, l3, l4, l5, l6]
      refine tk 16 (v := ?_) rfl (Or.inl ⟨by rfl, ?_⟩) ?_; rotate_left
      · intro w hSw; (try dsimp only at hSw); go_simp; try with_reducible rfl
      try simp only [Act.put, l1, l2, l3, l4, l5, l6]
      refine tk 17 (v := ?_) rfl (Or.inl ⟨by rfl, ?_⟩) ?_; rotate_left
      · intro w hSw; (try dsimp only at hSw); go_simp; try with_reducible rfl
      try simp only [Act.put, l1, l2, l3, l4, l5, l6]
      refine tk 18 (v := ?_) rfl (Or.inl ⟨by rfl, ?_⟩) ?_; rotate_left
      · intro w hSw; (try dsimp only at hSw); go_simp; try with_reducible rfl
      try simp only [Act.put, l1, l2, l3, l4, l5, l6]
      refine tk 19 (v := ?_) rfl (Or.inl ⟨by rfl, ?_⟩) ?_; rotate_left
      · intro w hSw; (try dsimp only at hSw); go_simp; try with_reducible rfl
      try simp only [Act.put, l1, l2, l3, l4, l5, l6]
      refine tk 20 (v := ?_) rfl (Or.inl ⟨by rfl, ?_⟩) ?_; rotate_left
      · intro w hSw; (try dsimp only at hSw); go_simp; try with_reducible rfl
      try simp only [Act.put, l1, l2, l3, l4, l5, l6]
      refine tk 21 (v := ?_) rfl (Or.inl ⟨by rfl, ?_⟩) ?_; rotate_left
      · intro w hSw; (try dsimp only at hSw); go_simp; try with_reducible rfl
      try simp only [Act.put, l1, l2, l3, l4, l5, l6]
      refine tk 22 (v := ?_) rfl (Or.inl ⟨by rfl, ?_⟩) ?_; rotate_left
      · intro w hSw; (try dsimp only at hSw); go_simp; try with_reducible rfl
      try simp only [Act.put, l1, l2, l3, l4, l5, l6]
      refine tk 23 (v := ?_) rfl (Or.inl ⟨by rfl, ?_⟩) ?_; rotate_left
      · intro w hSw; (try dsimp only at hSw); go_simp; try with_reducible rfl
      try simp only [Act.put, l1, l2, l3, l4, l5, l6]
      refine tk 24 (v := ?_) rfl (Or.inl ⟨by rfl, ?_⟩) ?_; rotate_left
      · intro w hSw; (try dsimp only at hSw); go_simp; try with_reducible rfl
      try simp only [Act.put, l1, l2, l3, l4, l5, l6]
      refine tk 25 (v := ?_) rfl (Or.inl ⟨by rfl, ?_⟩) ?_; rotate_left
      · intro w hSw; (try dsimp only at hSw); go_simp; try with_reducible rfl
      try simp only [Act.put, l1, l2, l3, l4, l5, l6]
      refine tk 26 (v := ?_) rfl (Or.inl ⟨by rfl, ?_⟩) ?_; rotate_left
      · intro w hSw; (try dsimp only at hSw); go_simp; try with_reducible rfl
      try simp only [Act.put, l1, l2, l3, l4, l5, l6]
      refine tk 27 (v := ?_) rfl (Or.inl ⟨by rfl, ?_⟩) ?_; rotate_left
      · intro w hSw; (try dsimp only at hSw); go_simp; try with_reducible rfl
      try simp only [Act.put, l1, l2, l3, l4, l5, l6]
      refine tk 28 (v := ?_) rfl (Or.inl ⟨by rfl, ?_⟩) ?_; rotate_left
      · intro w hSw; (try dsimp only at hSw); go_simp; try with_reducible rfl
      try simp only [Act.put, l1, l2, l3, l4, l5, l6]
      refine tk 29 (v := ?_) rfl (Or.inl ⟨by rfl, ?_⟩) ?_; rotate_left
      · intro w hSw; (try dsimp only at hSw); go_simp; try with_reducible rfl
      try simp only [Act.put, l1, l2, l3, l4, l5, l6]
      refine wpAnyH_done (by kernel_rfl) ?_ _
      clear hHeld
      obtain ⟨xs0, xsz0, xs1, xsz1, xs2, xsz2, xs3, xsz3, xs4, xsz4, xs5, xsz5⟩ := xs.f6
      obtain ⟨xd0, xdz0, xd1, xdz1, xd2, xdz2, xd3, xdz3, xd4, xdz4, xd5, xdz5⟩ := xd.f6
      go_wp2
      go_ret
      exact ⟨rfl, hB⟩
  | 2, _ =>
    have hb : (wrap64 (n.toNat : Int)).tmod 4 = 2 := hb
    have hs1 : sensor 2 = true := rfl
    have IA := iso_of hl.i hs1
    obtain ⟨b1, b2, b3⟩ := bits_iso hl.i 2 (by decide)
    rw [show ((2 : Int) ^ 2) = 4 from rfl] at b1 b2 b3
    have hE5 : deltaE s ⟨5, 2, 0, 0⟩ = if isIso s.iso 2 = false ∧ (soundN s.iso : Int) - 1 < needsN s.mode then 24 else 0 := by show isoE s 2 = _; unfold isoE; rw [hs1, if_neg (by decide)]; rfl
    have lC := delta_legal ⟨5, 2, 0, 0⟩ hl
    have hE6 : ∀ w : St, deltaE w ⟨6, 2, 0, 0⟩ = 0 := fun w => by show (if sensor 2 = false then 1 else 0) = _; rw [hs1, if_neg (by decide)]
    cases hi : isIso s.iso 2 with
    | false =>
      rw [hi] at b1
      by_cases hn : (soundN s.iso : Int) - 1 < needsN s.mode
      · rw [hi, if_pos ⟨rfl, hn⟩] at hE5
        have hR := delta_err (s := s) (c := ⟨5, 2, 0, 0⟩) (by rw [hE5]; decide)
        have T3 := Lib.hid (fun (V : World) => (show Calls Try.prog 13 #[.agg #[.int .i64 s.mode, .bool s.armed, .bool s.home, .int .i64 s.lat, .int .i64 s.lon, .int .i64 s.iso], .agg #[.int .i64 5, .int .i64 2, .float .f64 0, .float .f64 0]] V fun e W' => e = .returned (.tuple #[.agg #[.int .i64 s.mode, .bool s.armed, .bool s.home, .int .i64 s.lat, .int .i64 s.lon, .int .i64 s.iso], .int .i64 24]) ∧ Below V.heap.size V W' from by have h := own16Delta s ⟨5, 2, 0, 0⟩ V hl ⟨by decide, by decide, by show (0 : Nat) < 2 ^ 64; decide, by show (0 : Nat) < 2 ^ 64; decide⟩; rw [hE5, hR] at h; exact h))
        have T4 := Lib.hid (fun (V : World) => own16Delta s ⟨6, 2, 0, 0⟩ V hl ⟨by decide, by decide, by show (0 : Nat) < 2 ^ 64; decide, by show (0 : Nat) < 2 ^ 64; decide⟩)
        rw [hE6] at T4
        generalize deltaS s ⟨6, 2, 0, 0⟩ = w at *
        clear hE5 hE6 lC IA b1 b2 b3 hi hs1 hI hl hR hn
        obtain ⟨wm, wa, wh, wl, wo, wi⟩ := w
        dsimp only at T4
        go_wp2_with fail
        refine (T3.out _).mono ?_
        rintro e V8 ⟨rfl, hk⟩
        clear xs0 xsz0 xs1 xsz1 xs2 xsz2 xs3 xsz3 xs4 xsz4 xs5 xsz5 xb0 xbz0 xb1 xbz1 xb2 xbz2 xb3 xbz3 xb4 xbz4 xb5 xbz5
        replace hB := below_seq hB hk
        replace xs := xs.seq hk
        replace xb := xb.seq hk
        clear hk
        have xc := Box.new 23 V8 [.int .i64 s.mode, .bool s.armed, .bool s.home, .int .i64 s.lat, .int .i64 s.lon, .int .i64 s.iso]
        have ne_xc_xs : V8.heap.size ≠ W.heap.size := Nat.ne_of_gt xs.lt
        have le_xc : W.heap.size ≤ V8.heap.size := hB.size
        replace xs := xs.alloc (.cells #[.int .i64 s.mode, .bool s.armed, .bool s.home, .int .i64 s.lat, .int .i64 s.lon, .int .i64 s.iso] 23)
        replace hB := hB.alloc hB.size (.cells #[.int .i64 s.mode, .bool s.armed, .bool s.home, .int .i64 s.lat, .int .i64 s.lon, .int .i64 s.iso] 23)
        obtain ⟨xc0, xcz0, xc1, xcz1, xc2, xcz2, xc3, xcz3, xc4, xcz4, xc5, xcz5⟩ := xc.f6
        go_wp2_with fail
        refine (T4.out _).mono ?_
        rintro e V9 ⟨rfl, hk⟩
        clear xc0 xcz0 xc1 xcz1 xc2 xcz2 xc3 xcz3 xc4 xcz4 xc5 xcz5
        replace hB := below_seq hB hk
        replace xs := xs.seq hk
        replace xc := xc.seq hk
        clear hk
        have xd := Box.new 23 V9 [.int .i64 wm, .bool wa, .bool wh, .int .i64 wl, .int .i64 wo, .int .i64 wi]
        have ne_xd_xs : V9.heap.size ≠ W.heap.size := Nat.ne_of_gt xs.lt
        have le_xd : W.heap.size ≤ V9.heap.size := hB.size
        replace xs := xs.alloc (.cells #[.int .i64 wm, .bool wa, .bool wh, .int .i64 wl, .int .i64 wo, .int .i64 wi] 23)
        replace hB := hB.alloc hB.size (.cells #[.int .i64 wm, .bool wa, .bool wh, .int .i64 wl, .int .i64 wo, .int .i64 wi] 23)
        obtain ⟨xs0, xsz0, xs1, xsz1, xs2, xsz2, xs3, xsz3, xs4, xsz4, xs5, xsz5⟩ := xs.f6
        obtain ⟨xd0, xdz0, xd1, xdz1, xd2, xdz2, xd3, xdz3, xd4, xdz4, xd5, xdz5⟩ := xd.f6
        go_wp2_with fail
        clear xs0 xsz0 xs1 xsz1 xs2 xsz2 xs3 xsz3 xs4 xsz4 xs5 xsz5 xd0 xdz0 xd1 xdz1 xd2 xdz2 xd3 xdz3 xd4 xdz4 xd5 xdz5
        generalize (V9.alloc (.cells #[.int .i64 wm, .bool wa, .bool wh, .int .i64 wl, .int .i64 wo, .int .i64 wi] 23)) = V10 at *
        replace hB := hB.drew
        replace xs := xs.drew
        replace xd := xd.drew
        refine wp_region_held_drew (S := fun w' => w'.cell? ⟨W.heap.size, 0, none⟩ = some (.int .i64 s.mode) ∧ w'.cell? ⟨W.heap.size, 1, none⟩ = some (.bool s.armed) ∧ w'.cell? ⟨W.heap.size, 2, none⟩ = some (.bool s.home) ∧ w'.cell? ⟨W.heap.size, 3, none⟩ = some (.int .i64 s.lat) ∧ w'.cell? ⟨W.heap.size, 4, none⟩ = some (.int .i64 s.lon) ∧ w'.cell? ⟨W.heap.size, 5, none⟩ = some (.int .i64 s.iso) ∧ w'.cell? ⟨V9.heap.size, 0, none⟩ = some (.int .i64 wm) ∧ w'.cell? ⟨V9.heap.size, 1, none⟩ = some (.bool wa) ∧ w'.cell? ⟨V9.heap.size, 2, none⟩ = some (.bool wh) ∧ w'.cell? ⟨V9.heap.size, 3, none⟩ = some (.int .i64 wl) ∧ w'.cell? ⟨V9.heap.size, 4, none⟩ = some (.int .i64 wo) ∧ w'.cell? ⟨V9.heap.size, 5, none⟩ = some (.int .i64 wi)) (by kernel_rfl) ?_ (fun hHeld => ?_)
        · exact ⟨xs.cell 0 rfl, xs.cell 1 rfl, xs.cell 2 rfl, xs.cell 3 rfl, xs.cell 4 rfl, xs.cell 5 rfl, xd.cell 0 rfl, xd.cell 1 rfl, xd.cell 2 rfl, xd.cell 3 rfl, xd.cell 4 rfl, xd.cell 5 rfl⟩
        generalize V10.drew = V11 at *
        refine tk 0 (v := ?_) rfl (Or.inl ⟨by rfl, ?_⟩) ?_; rotate_left
        · intro w hSw; (try dsimp only at hSw); go_simp; try with_reducible rfl
        try simp only [Act.put, l1, l2, l3, l4, l5, l6]
        refine tk 1 (v := ?_) rfl (Or.inl ⟨by rfl, ?_⟩) ?_; rotate_left
        · intro w hSw; (try dsimp only at hSw); go_simp; try with_reducible rfl
        try simp only [Act.put, l1, l2, l3, l4, l5, l6]
        refine tk 2 (v := ?_) rfl (Or.inl ⟨by rfl, ?_⟩) ?_; rotate_left
        · intro w hSw; (try dsimp only at hSw); go_simp; try with_reducible rfl
        try simp only [Act.put, l1, l2, l3, l4, l5, l6]
        refine wpAnyH_take (i := 3) (v := undef) rfl (by kernel_rfl) (by kernel_rfl) (by kernel_rfl) (fun _ _ _ h => h) (Or.inr ⟨by rfl, rfl⟩) (by assumption) ?_
        try simp only [Act.put, l1, l2, l3, l4, l5, l6]
        refine wpAnyH_take (i := 4) (v := undef) rfl (by kernel_rfl) (by kernel_rfl) (by kernel_rfl) (fun _ _ _ h => h) (Or.inr ⟨by rfl, rfl⟩) (by assumption) ?_
        try simp only [Act.put, l1, l2, l3, l4, l5, l6]
        refine wpAnyH_take (i := 5) (v := undef) rfl (by kernel_rfl) (by kernel_rfl) (by kernel_rfl) (fun _ _ _ h => h) (Or.inr ⟨by rfl, rfl⟩) (by assumption) ?_
        try simp only [Act.put, l1, l2, l3, l4, l5, l6]
        refine wpAnyH_take (i := 6) (v := undef) rfl (by kernel_rfl) (by kernel_rfl) (by kernel_rfl) (fun _ _ _ h => h) (Or.inr ⟨by rfl, rfl⟩) (by assumption) ?_
        try simp only [Act.put, l1, l2, l3, l4, l5, l6]
        refine wpAnyH_take (i := 7) (v := undef) rfl (by kernel_rfl) (by kernel_rfl) (by kernel_rfl) (fun _ _ _ h => h) (Or.inr ⟨by rfl, rfl⟩) (by assumption) ?_
        try simp only [Act.put, l1, l2, l3, l4, l5, l6]
        refine wpAnyH_take (i := 8) (v := undef) rfl (by kernel_rfl) (by kernel_rfl) (by kernel_rfl) (fun _ _ _ h => h) (Or.inr ⟨by rfl, rfl⟩) (by assumption) ?_
        try simp only [Act.put, l1, l2, l3, l4, l5, l6]
        refine wpAnyH_take (i := 9) (v := undef) rfl (by kernel_rfl) (by kernel_rfl) (by kernel_rfl) (fun _ _ _ h => h) (Or.inr ⟨by rfl, rfl⟩) (by assumption) ?_
        try simp only [Act.put, l1, l2, l3, l4, l5, l6]
        refine wpAnyH_take (i := 10) (v := undef) rfl (by kernel_rfl) (by kernel_rfl) (by kernel_rfl) (fun _ _ _ h => h) (Or.inr ⟨by rfl, rfl⟩) (by assumption) ?_
        try simp only [Act.put, l1, l2, l3, l4, l5, l6]
        refine wpAnyH_take (i := 11) (v := undef) rfl (by kernel_rfl) (by kernel_rfl) (by kernel_rfl) (fun _ _ _ h => h) (Or.inr ⟨by rfl, rfl⟩) (by assumption) ?_
        try simp only [Act.put, l1, l2, l3, l4, l5, l6]
        refine wpAnyH_take (i := 12) (v := undef) rfl (by kernel_rfl) (by kernel_rfl) (by kernel_rfl) (fun _ _ _ h => h) (Or.inr ⟨by rfl, rfl⟩) (by assumption) ?_
        try simp only [Act.put, l1, l2, l3, l4, l5, l6]
        refine wpAnyH_take (i := 13) (v := undef) rfl (by kernel_rfl) (by kernel_rfl) (by kernel_rfl) (fun _ _ _ h => h) (Or.inr ⟨by rfl, rfl⟩) (by assumption) ?_
        try simp only [Act.put, l1, l2, l3, l4, l5, l6]
        refine wpAnyH_take (i := 14) (v := undef) rfl (by kernel_rfl) (by kernel_rfl) (by kernel_rfl) (fun _ _ _ h => h) (Or.inr ⟨by rfl, rfl⟩) (by assumption) ?_
        try simp only [Act.put, l1, l2, l3, l4, l5, l6]
        refine wpAnyH_take (i := 15) (v := undef) rfl (by kernel_rfl) (by kernel_rfl) (by kernel_rfl) (fun _ _ _ h => h) (Or.inr ⟨by rfl, rfl⟩) (by assumption) ?_
        try simp only [Act.put, l1, l2, l3, l4, l5, l6]
        refine wpAnyH_take (i := 16) (v := undef) rfl (by kernel_rfl) (by kernel_rfl) (by kernel_rfl) (fun _ _ _ h => h) (Or.inr ⟨by rfl, rfl⟩) (by assumption) ?_
        try simp only [Act.put, l1, l2, l3, l4, l5, l6]
        refine wpAnyH_take (i := 17) (v := undef) rfl (by kernel_rfl) (by kernel_rfl) (by kernel_rfl) (fun _ _ _ h => h) (Or.inr ⟨by rfl, rfl⟩) (by assumption) ?_
        try simp only [Act.put, l1, l2, l3, l4, l5, l6]
        refine wpAnyH_take (i := 18) (v := undef) rfl (by kernel_rfl) (by kernel_rfl) (by kernel_rfl) (fun _ _ _ h => h) (Or.inr ⟨by rfl, rfl⟩) (by assumption) ?_
        try simp only [Act.put, l1, l2, l3, l4, l5, l6]
        refine wpAnyH_take (i := 19) (v := undef) rfl (by kernel_rfl) (by kernel_rfl) (by kernel_rfl) (fun _ _ _ h => h) (Or.inr ⟨by rfl, rfl⟩) (by assumption) ?_
        try simp only [Act.put, l1, l2, l3, l4, l5, l6]
        refine wpAnyH_take (i := 20) (v := undef) rfl (by kernel_rfl) (by kernel_rfl) (by kernel_rfl) (fun _ _ _ h => h) (Or.inr ⟨by rfl, rfl⟩) (by assumption) ?_
        try simp only [Act.put, l1, l2, l3, l4, l5, l6]
        refine wpAnyH_take (i := 21) (v := undef) rfl (by kernel_rfl) (by kernel_rfl) (by kernel_rfl) (fun _ _ _ h => h) (Or.inr ⟨by rfl, rfl⟩) (by assumption) ?_
        try simp only [Act.put, l1, l2, l3, l4, l5, l6]
        refine wpAnyH_take (i := 22) (v := undef) rfl (by kernel_rfl) (by kernel_rfl) (by kernel_rfl) (fun _ _ _ h => h) (Or.inr ⟨by rfl, rfl⟩) (by assumption) ?_
        try simp only [Act.put, l1, l2, l3, l4, l5, l6]
        refine wpAnyH_take (i := 23) (v := undef) rfl (by kernel_rfl) (by kernel_rfl) (by kernel_rfl) (fun _ _ _ h => h) (Or.inr ⟨by rfl, rfl⟩) (by assumption) ?_
        try simp only [Act.put, l1, l2, l3, l4, l5, l6]
        refine wpAnyH_take (i := 24) (v := undef) rfl (by kernel_rfl) (by kernel_rfl) (by kernel_rfl) (fun _ _ _ h => h) (Or.inr ⟨by rfl, rfl⟩) (by assumption) ?_
        try simp only [Act.put, l1, l2, l3, l4, l5, l6]
        refine wpAnyH_take (i := 25) (v := undef) rfl (by kernel_rfl) (by kernel_rfl) (by kernel_rfl) (fun _ _ _ h => h) (Or.inr ⟨by rfl, rfl⟩) (by assumption) ?_
        try simp only [Act.put, l1, l2, l3, l4, l5, l6]
        refine wpAnyH_take (i := 26) (v := undef) rfl (by kernel_rfl) (by kernel_rfl) (by kernel_rfl) (fun _ _ _ h => h) (Or.inr ⟨by rfl, rfl⟩) (by assumption) ?_
        try simp only [Act.put, l1, l2, l3, l4, l5, l6]
        refine wpAnyH_take (i := 27) (v := undef) rfl (by kernel_rfl) (by kernel_rfl) (by kernel_rfl) (fun _ _ _ h => h) (Or.inr ⟨by rfl, rfl⟩) (by assumption) ?_
        try simp only [Act.put, l1, l2, l3, l4, l5, l6]
        refine tk 28 (v := ?_) rfl (Or.inl ⟨by rfl, ?_⟩) ?_; rotate_left
        · intro w hSw; (try dsimp only at hSw); go_simp; try with_reducible rfl
        try simp only [Act.put, l1, l2, l3, l4, l5, l6]
        refine tk 29 (v := ?_) rfl (Or.inl ⟨by rfl, ?_⟩) ?_; rotate_left
        · intro w hSw; (try dsimp only at hSw); go_simp; try with_reducible rfl
        try simp only [Act.put, l1, l2, l3, l4, l5, l6]
        refine wpAnyH_done (by kernel_rfl) ?_ _
        clear hHeld
        obtain ⟨xs0, xsz0, xs1, xsz1, xs2, xsz2, xs3, xsz3, xs4, xsz4, xs5, xsz5⟩ := xs.f6
        obtain ⟨xd0, xdz0, xd1, xdz1, xd2, xdz2, xd3, xdz3, xd4, xdz4, xd5, xdz5⟩ := xd.f6
        go_wp2
        go_ret
        exact ⟨rfl, hB⟩
      · rw [hi, if_neg (fun k => hn k.2)] at hE5
        have hR : deltaS s ⟨5, 2, 0, 0⟩ = setIso s (orI s.iso 2) := delta_done hE5
        have T3 := Lib.hid (fun (V : World) => (show Calls Try.prog 13 #[.agg #[.int .i64 s.mode, .bool s.armed, .bool s.home, .int .i64 s.lat, .int .i64 s.lon, .int .i64 s.iso], .agg #[.int .i64 5, .int .i64 2, .float .f64 0, .float .f64 0]] V fun e W' => e = .returned (.tuple #[.agg #[.int .i64 s.mode, .bool s.armed, .bool s.home, .int .i64 s.lat, .int .i64 s.lon, .int .i64 (orI s.iso 2)], .int .i64 0]) ∧ Below V.heap.size V W' from by have h := own16Delta s ⟨5, 2, 0, 0⟩ V hl ⟨by decide, by decide, by show (0 : Nat) < 2 ^ 64; decide, by show (0 : Nat) < 2 ^ 64; decide⟩; rw [hE5, hR] at h; exact h))
        rw [hR] at lC
        have hX : deltaS (setIso s (orI s.iso 2)) ⟨6, 2, 0, 0⟩ = s := by
          rw [delta_done (hE6 _)]
          show setIso s (clI (orI s.iso 2) 2) = s
          have e1 : clI (orI s.iso 2) 2 = clI s.iso 2 := IA.co
          have e2 : clI s.iso 2 = s.iso := IA.cn hi
          rw [e1, e2]; rfl
        have T4 := Lib.hid (fun (V : World) => (show Calls Try.prog 13 #[.agg #[.int .i64 s.mode, .bool s.armed, .bool s.home, .int .i64 s.lat, .int .i64 s.lon, .int .i64 (orI s.iso 2)], .agg #[.int .i64 6, .int .i64 2, .float .f64 0, .float .f64 0]] V fun e W' => e = .returned (.tuple #[.agg #[.int .i64 s.mode, .bool s.armed, .bool s.home, .int .i64 s.lat, .int .i64 s.lon, .int .i64 s.iso], .int .i64 0]) ∧ Below V.heap.size V W' from by have h := own16Delta (setIso s (orI s.iso 2)) ⟨6, 2, 0, 0⟩ V lC ⟨by decide, by decide, by show (0 : Nat) < 2 ^ 64; decide, by show (0 : Nat) < 2 ^ 64; decide⟩; rw [hE6, hX] at h; exact h))
        clear hE5 hE6 lC IA b1 b2 b3 hi hs1 hI hl hR hn hX
        generalize orI s.iso 2 = y at *
        go_wp2_with fail
        refine (T3.out _).mono ?_
        rintro e V8 ⟨rfl, hk⟩
        clear xs0 xsz0 xs1 xsz1 xs2 xsz2 xs3 xsz3 xs4 xsz4 xs5 xsz5 xb0 xbz0 xb1 xbz1 xb2 xbz2 xb3 xbz3 xb4 xbz4 xb5 xbz5
        replace hB := below_seq hB hk
        replace xs := xs.seq hk
        replace xb := xb.seq hk
        clear hk
        have xc := Box.new 23 V8 [.int .i64 s.mode, .bool s.armed, .bool s.home, .int .i64 s.lat, .int .i64 s.lon, .int .i64 y]
        have ne_xc_xs : V8.heap.size ≠ W.heap.size := Nat.ne_of_gt xs.lt
        have le_xc : W.heap.size ≤ V8.heap.size := hB.size
        replace xs := xs.alloc (.cells #[.int .i64 s.mode, .bool s.armed, .bool s.home, .int .i64 s.lat, .int .i64 s.lon, .int .i64 y] 23)
        replace hB := hB.alloc hB.size (.cells #[.int .i64 s.mode, .bool s.armed, .bool s.home, .int .i64 s.lat, .int .i64 s.lon, .int .i64 y] 23)
        obtain ⟨xc0, xcz0, xc1, xcz1, xc2, xcz2, xc3, xcz3, xc4, xcz4, xc5, xcz5⟩ := xc.f6
        go_wp2_with fail
        refine (T4.out _).mono ?_
        rintro e V9 ⟨rfl, hk⟩
        clear xc0 xcz0 xc1 xcz1 xc2 xcz2 xc3 xcz3 xc4 xcz4 xc5 xcz5
        replace hB := below_seq hB hk
        replace xs := xs.seq hk
        replace xc := xc.seq hk
        clear hk
        have xd := Box.new 23 V9 [.int .i64 s.mode, .bool s.armed, .bool s.home, .int .i64 s.lat, .int .i64 s.lon, .int .i64 s.iso]
        have ne_xd_xs : V9.heap.size ≠ W.heap.size := Nat.ne_of_gt xs.lt
        have le_xd : W.heap.size ≤ V9.heap.size := hB.size
        replace xs := xs.alloc (.cells #[.int .i64 s.mode, .bool s.armed, .bool s.home, .int .i64 s.lat, .int .i64 s.lon, .int .i64 s.iso] 23)
        replace hB := hB.alloc hB.size (.cells #[.int .i64 s.mode, .bool s.armed, .bool s.home, .int .i64 s.lat, .int .i64 s.lon, .int .i64 s.iso] 23)
        obtain ⟨xs0, xsz0, xs1, xsz1, xs2, xsz2, xs3, xsz3, xs4, xsz4, xs5, xsz5⟩ := xs.f6
        obtain ⟨xd0, xdz0, xd1, xdz1, xd2, xdz2, xd3, xdz3, xd4, xdz4, xd5, xdz5⟩ := xd.f6
        go_wp2_with fail
        clear xs0 xsz0 xs1 xsz1 xs2 xsz2 xs3 xsz3 xs4 xsz4 xs5 xsz5 xd0 xdz0 xd1 xdz1 xd2 xdz2 xd3 xdz3 xd4 xdz4 xd5 xdz5
        generalize (V9.alloc (.cells #[.int .i64 s.mode, .bool s.armed, .bool s.home, .int .i64 s.lat, .int .i64 s.lon, .int .i64 s.iso] 23)) = V10 at *
        replace hB := hB.drew
        replace xs := xs.drew
        replace xd := xd.drew
        refine wp_region_held_drew (S := fun w' => w'.cell? ⟨W.heap.size, 0, none⟩ = some (.int .i64 s.mode) ∧ w'.cell? ⟨W.heap.size, 1, none⟩ = some (.bool s.armed) ∧ w'.cell? ⟨W.heap.size, 2, none⟩ = some (.bool s.home) ∧ w'.cell? ⟨W.heap.size, 3, none⟩ = some (.int .i64 s.lat) ∧ w'.cell? ⟨W.heap.size, 4, none⟩ = some (.int .i64 s.lon) ∧ w'.cell? ⟨W.heap.size, 5, none⟩ = some (.int .i64 s.iso) ∧ w'.cell? ⟨V9.heap.size, 0, none⟩ = some (.int .i64 s.mode) ∧ w'.cell? ⟨V9.heap.size, 1, none⟩ = some (.bool s.armed) ∧ w'.cell? ⟨V9.heap.size, 2, none⟩ = some (.bool s.home) ∧ w'.cell? ⟨V9.heap.size, 3, none⟩ = some (.int .i64 s.lat) ∧ w'.cell? ⟨V9.heap.size, 4, none⟩ = some (.int .i64 s.lon) ∧ w'.cell? ⟨V9.heap.size, 5, none⟩ = some (.int .i64 s.iso)) (by kernel_rfl) ?_ (fun hHeld => ?_)
        · exact ⟨xs.cell 0 rfl, xs.cell 1 rfl, xs.cell 2 rfl, xs.cell 3 rfl, xs.cell 4 rfl, xs.cell 5 rfl, xd.cell 0 rfl, xd.cell 1 rfl, xd.cell 2 rfl, xd.cell 3 rfl, xd.cell 4 rfl, xd.cell 5 rfl⟩
        generalize V10.drew = V11 at *
        refine tk 0 (v := ?_) rfl (Or.inl ⟨by rfl, ?_⟩) ?_; rotate_left
        · intro w hSw; (try dsimp only at hSw); go_simp; try with_reducible rfl
        try simp only [Act.put, l1, l2, l3, l4, l5, l6]
        refine tk 1 (v := ?_) rfl (Or.inl ⟨by rfl, ?_⟩) ?_; rotate_left
        · intro w hSw; (try dsimp only at hSw); go_simp; try with_reducible rfl
        try simp only [Act.put, l1, l2, l3, l4, l5, l6]
        refine tk 2 (v := ?_) rfl (Or.inl ⟨by rfl, ?_⟩) ?_; rotate_left
        · intro w hSw; (try dsimp only at hSw); go_simp; try with_reducible rfl
        try simp only [Act.put, l1, l2, l3, l4, l5, l6]
        refine tk 3 (v := ?_) rfl (Or.inl ⟨by rfl, ?_⟩) ?_; rotate_left
        · intro w hSw; (try dsimp only at hSw); go_simp; try with_reducible rfl
        try simp only [Act.put, l1, l2, l3, l4, l5, l6]
        refine tk 4 (v := ?_) rfl (Or.inl ⟨by rfl, ?_⟩) ?_; rotate_left
        · intro w hSw; (try dsimp only at hSw); go_simp; try with_reducible rfl
        try simp only [Act.put, l1, l2, l3, l4, l5, l6]
        refine tk 5 (v := ?_) rfl (Or.inl ⟨by rfl, ?_⟩) ?_; rotate_left
        · intro w hSw; (try dsimp only at hSw); go_simp; try with_reducible rfl
        try simp only [Act.put, l1, l2, l3, l4, l5, l6]
        refine tk 6 (v := ?_) rfl (Or.inl ⟨by rfl, ?_⟩) ?_; rotate_left
        · intro w hSw; (try dsimp only at hSw); go_simp; try with_reducible rfl
        try simp only [Act.put, l1, l2, l3, l4, l5, l6]
        refine tk 7 (v := ?_) rfl (Or.inl ⟨by rfl, ?_⟩) ?_; rotate_left
        · intro w hSw; (try dsimp only at hSw); go_simp; try with_reducible rfl
        try simp only [Act.put, l1, l2, l3, l4, l5, l6]
        refine tk 8 (v := ?_) rfl (Or.inl ⟨by rfl, ?_⟩) ?_; rotate_left
        · intro w hSw; (try dsimp only at hSw); go_simp; try with_reducible rfl
        try simp only [Act.put, l1, l2, l3, l4, l5, l6]
        refine tk 9 (v := ?_) rfl (Or.inl ⟨by rfl, ?_⟩) ?_; rotate_left
        · intro w hSw; (try dsimp only at hSw); go_simp; try with_reducible rfl
        try simp only [Act.put, l1, l2, l3, l4, l5, l6]
        refine wpAnyH_take (i := 10) (v := undef) rfl (by kernel_rfl) (by kernel_rfl) (by kernel_rfl) (fun _ _ _ h => h) (Or.inr ⟨by rfl, rfl⟩) (by assumption) ?_
        try simp only [Act.put, l1, l2, l3, l4, l5, l6]
        refine wpAnyH_take (i := 11) (v := undef) rfl (by kernel_rfl) (by kernel_rfl) (by kernel_rfl) (fun _ _ _ h => h) (Or.inr ⟨by rfl, rfl⟩) (by assumption) ?_
        try simp only [Act.put, l1, l2, l3, l4, l5, l6]
        refine wpAnyH_take (i := 12) (v := undef) rfl (by kernel_rfl) (by kernel_rfl) (by kernel_rfl) (fun _ _ _ h => h) (Or.inr ⟨by rfl, rfl⟩) (by assumption) ?_
        try simp only [Act.put, l1, l2, l3, l4, l5, l6]
        refine wpAnyH_take (i := 13) (v := undef) rfl (by kernel_rfl) (by kernel_rfl) (by kernel_rfl) (fun _ _ _ h => h) (Or.inr ⟨by rfl, rfl⟩) (by assumption) ?_
        try simp only [Act.put, l1, l2, l3, l4, l5, l6]
        refine wpAnyH_take (i := 14) (v := undef) rfl (by kernel_rfl) (by kernel_rfl) (by kernel_rfl) (fun _ _ _ h => h) (Or.inr ⟨by rfl, rfl⟩) (by assumption) ?_
        try simp only [Act.put, l1, l2, l3, l4, l5, l6]
        refine wpAnyH_take (i := 15) (v := undef) rfl (by kernel_rfl) (by kernel_rfl) (by kernel_rfl) (fun _ _ _ h => h) (Or.inr ⟨by rfl, rfl⟩) (by assumption) ?_
        try simp only [Act.put, l1, l2, l3, l4, l5, l6]
        refine wpAnyH_take (i := 16) (v := undef) rfl (by kernel_rfl) (by kernel_rfl) (by kernel_rfl) (fun _ _ _ h => h) (Or.inr ⟨by rfl, rfl⟩) (by assumption) ?_
        try simp only [Act.put, l1, l2, l3, l4, l5, l6]
        refine wpAnyH_take (i := 17) (v := undef) rfl (by kernel_rfl) (by kernel_rfl) (by kernel_rfl) (fun _ _ _ h => h) (Or.inr ⟨by rfl, rfl⟩) (by assumption) ?_
        try simp only [Act.put, l1, l2, l3, l4, l5, l6]
        refine wpAnyH_take (i := 18) (v := undef) rfl (by kernel_rfl) (by kernel_rfl) (by kernel_rfl) (fun _ _ _ h => h) (Or.inr ⟨by rfl, rfl⟩) (by assumption) ?_
        try simp only [Act.put, l1, l2, l3, l4, l5, l6]
        refine wpAnyH_take (i := 19) (v := undef) rfl (by kernel_rfl) (by kernel_rfl) (by kernel_rfl) (fun _ _ _ h => h) (Or.inr ⟨by rfl, rfl⟩) (by assumption) ?_
        try simp only [Act.put, l1, l2, l3, l4, l5, l6]
        refine wpAnyH_take (i := 20) (v := undef) rfl (by kernel_rfl) (by kernel_rfl) (by kernel_rfl) (fun _ _ _ h => h) (Or.inr ⟨by rfl, rfl⟩) (by assumption) ?_
        try simp only [Act.put, l1, l2, l3, l4, l5, l6]
        refine wpAnyH_take (i := 21) (v := undef) rfl (by kernel_rfl) (by kernel_rfl) (by kernel_rfl) (fun _ _ _ h => h) (Or.inr ⟨by rfl, rfl⟩) (by assumption) ?_
        try simp only [Act.put, l1, l2, l3, l4, l5, l6]
        refine wpAnyH_take (i := 22) (v := undef) rfl (by kernel_rfl) (by kernel_rfl) (by kernel_rfl) (fun _ _ _ h => h) (Or.inr ⟨by rfl, rfl⟩) (by assumption) ?_
        try simp only [Act.put, l1, l2, l3, l4, l5, l6]
        refine wpAnyH_take (i := 23) (v := undef) rfl (by kernel_rfl) (by kernel_rfl) (by kernel_rfl) (fun _ _ _ h => h) (Or.inr ⟨by rfl, rfl⟩) (by assumption) ?_
        try simp only [Act.put, l1, l2, l3, l4, l5, l6]
        refine wpAnyH_take (i := 24) (v := undef) rfl (by kernel_rfl) (by kernel_rfl) (by kernel_rfl) (fun _ _ _ h => h) (Or.inr ⟨by rfl, rfl⟩) (by assumption) ?_
        try simp only [Act.put, l1, l2, l3, l4, l5, l6]
        refine wpAnyH_take (i := 25) (v := undef) rfl (by kernel_rfl) (by kernel_rfl) (by kernel_rfl) (fun _ _ _ h => h) (Or.inr ⟨by rfl, rfl⟩) (by assumption) ?_
        try simp only [Act.put, l1, l2, l3, l4, l5, l6]
        refine tk 26 (v := ?_) rfl (Or.inl ⟨by rfl, ?_⟩) ?_; rotate_left
        · intro w hSw; (try dsimp only at hSw); go_simp; try with_reducible rfl
        try simp only [Act.put, l1, l2, l3, l4, l5, l6]
        refine tk 27 (v := ?_) rfl (Or.inl ⟨by rfl, ?_⟩) ?_; rotate_left
        · intro w hSw; (try dsimp only at hSw); go_simp; try with_reducible rfl
        try simp only [Act.put, l1, l2, l3, l4, l5, l6]
        refine tk 28 (v := ?_) rfl (Or.inl ⟨by rfl, ?_⟩) ?_; rotate_left
        · intro w hSw; (try dsimp only at hSw); go_simp; try with_reducible rfl
        try simp only [Act.put, l1, l2, l3, l4, l5, l6]
        refine tk 29 (v := ?_) rfl (Or.inl ⟨by rfl, ?_⟩) ?_; rotate_left
        · intro w hSw; (try dsimp only at hSw); go_simp; try with_reducible rfl
        try simp only [Act.put, l1, l2, l3, l4, l5, l6]
        refine wpAnyH_done (by kernel_rfl) ?_ _
        clear hHeld
        obtain ⟨xs0, xsz0, xs1, xsz1, xs2, xsz2, xs3, xsz3, xs4, xsz4, xs5, xsz5⟩ := xs.f6
        obtain ⟨xd0, xdz0, xd1, xdz1, xd2, xdz2, xd3, xdz3, xd4, xdz4, xd5, xdz5⟩ := xd.f6
        go_wp2
        go_ret
        exact ⟨rfl, hB⟩
    | true =>
      rw [hi, if_neg (fun k => by cases k.1)] at hE5
      have e1 : orI s.iso 2 = s.iso := (IA.of hi).1
      have hR : deltaS s ⟨5, 2, 0, 0⟩ = s := by
        rw [delta_done hE5]
        show setIso s (orI s.iso 2) = s
        rw [e1]; rfl
      have T3 := Lib.hid (fun (V : World) => (show Calls Try.prog 13 #[.agg #[.int .i64 s.mode, .bool s.armed, .bool s.home, .int .i64 s.lat, .int .i64 s.lon, .int .i64 s.iso], .agg #[.int .i64 5, .int .i64 2, .float .f64 0, .float .f64 0]] V fun e W' => e = .returned (.tuple #[.agg #[.int .i64 s.mode, .bool s.armed, .bool s.home, .int .i64 s.lat, .int .i64 s.lon, .int .i64 s.iso], .int .i64 0]) ∧ Below V.heap.size V W' from by have h := own16Delta s ⟨5, 2, 0, 0⟩ V hl ⟨by decide, by decide, by show (0 : Nat) < 2 ^ 64; decide, by show (0 : Nat) < 2 ^ 64; decide⟩; rw [hE5, hR] at h; exact h))
      have T4 := Lib.hid (fun (V : World) => (show Calls Try.prog 13 #[.agg #[.int .i64 s.mode, .bool s.armed, .bool s.home, .int .i64 s.lat, .int .i64 s.lon, .int .i64 s.iso], .agg #[.int .i64 6, .int .i64 2, .float .f64 0, .float .f64 0]] V fun e W' => e = .returned (.tuple #[.agg #[.int .i64 s.mode, .bool s.armed, .bool s.home, .int .i64 s.lat, .int .i64 s.lon, .int .i64 (clI s.iso 2)], .int .i64 0]) ∧ Below V.heap.size V W' from by have h := own16Delta s ⟨6, 2, 0, 0⟩ V hl ⟨by decide, by decide, by show (0 : Nat) < 2 ^ 64; decide, by show (0 : Nat) < 2 ^ 64; decide⟩; rw [hE6, delta_done (hE6 s)] at h; exact h))
      have d1 : ¬ clI s.iso 2 = s.iso := fun k => by
        have h2 : isIso (clI s.iso 2) 2 = false := IA.ic
        rw [k, hi] at h2; cases h2
      have d3 := i64_and1 (s.iso / 2 ^ 2)
      have d5 : IntKind.i64.wrap 4 = 4 := IntWalk.i64_in _ (by decide)
      have d2 : s.iso / 2 ^ 2 % 2 = 1 := by unfold isIso at hi; exact of_decide_eq_true hi
      rw [d2] at d3
      rw [show ((2 : Int) ^ 2) = 4 from rfl] at d3
      clear hE5 hE6 lC IA b1 b2 hi hs1 hI hl hR e1 d2
      generalize clI s.iso 2 = y at *
      go_wp2_with fail
      refine (T3.out _).mono ?_
      rintro e V8 ⟨rfl, hk⟩
      clear xs0 xsz0 xs1 xsz1 xs2 xsz2 xs3 xsz3 xs4 xsz4 xs5 xsz5 xb0 xbz0 xb1 xbz1 xb2 xbz2 xb3 xbz3 xb4 xbz4 xb5 xbz5
      replace hB := below_seq hB hk
      replace xs := xs.seq hk
      replace xb := xb.seq hk
      clear hk
      have xc := Box.new 23 V8 [.int .i64 s.mode, .bool s.armed, .bool s.home, .int .i64 s.lat, .int .i64 s.lon, .int .i64 s.iso]
      have ne_xc_xs : V8.heap.size ≠ W.heap.size := Nat.ne_of_gt xs.lt
      have le_xc : W.heap.size ≤ V8.heap.size := hB.size
      replace xs := xs.alloc (.cells #[.int .i64 s.mode, .bool s.armed, .bool s.home, .int .i64 s.lat, .int .i64 s.lon, .int .i64 s.iso] 23)
      replace hB := hB.alloc hB.size (.cells #[.int .i64 s.mode, .bool s.armed, .bool s.home, .int .i64 s.lat, .int .i64 s.lon, .int .i64 s.iso] 23)
      obtain ⟨xc0, xcz0, xc1, xcz1, xc2, xcz2, xc3, xcz3, xc4, xcz4, xc5, xcz5⟩ := xc.f6
      go_wp2_with fail
      refine (T4.out _).mono ?_
      rintro e V9 ⟨rfl, hk⟩
      clear xc0 xcz0 xc1 xcz1 xc2 xcz2 xc3 xcz3 xc4 xcz4 xc5 xcz5
      replace hB := below_seq hB hk
      replace xs := xs.seq hk
      replace xc := xc.seq hk
      clear hk
      have xd := Box.new 23 V9 [.int .i64 s.mode, .bool s.armed, .bool s.home, .int .i64 s.lat, .int .i64 s.lon, .int .i64 y]
      have ne_xd_xs : V9.heap.size ≠ W.heap.size := Nat.ne_of_gt xs.lt
      have le_xd : W.heap.size ≤ V9.heap.size := hB.size
      replace xs := xs.alloc (.cells #[.int .i64 s.mode, .bool s.armed, .bool s.home, .int .i64 s.lat, .int .i64 s.lon, .int .i64 y] 23)
      replace hB := hB.alloc hB.size (.cells #[.int .i64 s.mode, .bool s.armed, .bool s.home, .int .i64 s.lat, .int .i64 s.lon, .int .i64 y] 23)
      obtain ⟨xs0, xsz0, xs1, xsz1, xs2, xsz2, xs3, xsz3, xs4, xsz4, xs5, xsz5⟩ := xs.f6
      obtain ⟨xd0, xdz0, xd1, xdz1, xd2, xdz2, xd3, xdz3, xd4, xdz4, xd5, xdz5⟩ := xd.f6
      go_wp2_with fail
      clear xs0 xsz0 xs1 xsz1 xs2 xsz2 xs3 xsz3 xs4 xsz4 xs5 xsz5 xd0 xdz0 xd1 xdz1 xd2 xdz2 xd3 xdz3 xd4 xdz4 xd5 xdz5
      generalize (V9.alloc (.cells #[.int .i64 s.mode, .bool s.armed, .bool s.home, .int .i64 s.lat, .int .i64 s.lon, .int .i64 y] 23)) = V10 at *
      replace hB := hB.drew
      replace xs := xs.drew
      replace xd := xd.drew
      refine wp_region_held_drew (S := fun w' => w'.cell? ⟨W.heap.size, 0, none⟩ = some (.int .i64 s.mode) ∧ w'.cell? ⟨W.heap.size, 1, none⟩ = some (.bool s.armed) ∧ w'.cell? ⟨W.heap.size, 2, none⟩ = some (.bool s.home) ∧ w'.cell? ⟨W.heap.size, 3, none⟩ = some (.int .i64 s.lat) ∧ w'.cell? ⟨W.heap.size, 4, none⟩ = some (.int .i64 s.lon) ∧ w'.cell? ⟨W.heap.size, 5, none⟩ = some (.int .i64 s.iso) ∧ w'.cell? ⟨V9.heap.size, 0, none⟩ = some (.int .i64 s.mode) ∧ w'.cell? ⟨V9.heap.size, 1, none⟩ = some (.bool s.armed) ∧ w'.cell? ⟨V9.heap.size, 2, none⟩ = some (.bool s.home) ∧ w'.cell? ⟨V9.heap.size, 3, none⟩ = some (.int .i64 s.lat) ∧ w'.cell? ⟨V9.heap.size, 4, none⟩ = some (.int .i64 s.lon) ∧ w'.cell? ⟨V9.heap.size, 5, none⟩ = some (.int .i64 y)) (by kernel_rfl) ?_ (fun hHeld => ?_)
      · exact ⟨xs.cell 0 rfl, xs.cell 1 rfl, xs.cell 2 rfl, xs.cell 3 rfl, xs.cell 4 rfl, xs.cell 5 rfl, xd.cell 0 rfl, xd.cell 1 rfl, xd.cell 2 rfl, xd.cell 3 rfl, xd.cell 4 rfl, xd.cell 5 rfl⟩
      generalize V10.drew = V11 at *
      refine tk 0 (v := ?_) rfl (Or.inl ⟨by rfl, ?_⟩) ?_; rotate_left
      · intro w hSw; (try dsimp only at hSw); go_simp; try with_reducible rfl
      try simp only [Act.put, l1, l2, l3, l4, l5, l6]
      refine tk 1 (v := ?_) rfl (Or.inl ⟨by rfl, ?_⟩) ?_; rotate_left
      · intro w hSw; (try dsimp only at hSw); go_simp; try with_reducible rfl
      try simp only [Act.put, l1, l2, l3, l4, l5, l6]
      refine tk 2 (v := ?_) rfl (Or.inl ⟨by rfl, ?_⟩) ?_; rotate_left
      · intro w hSw; (try dsimp only at hSw); go_simp; try with_reducible rfl
      try simp only [Act.put, l1, l2, l3, l4, l5, l6]
      refine tk 3 (v := ?_) rfl (Or.inl ⟨by rfl, ?_⟩) ?_; rotate_left
      · intro w hSw; (try dsimp only at hSw); go_simp; try with_reducible rfl
      try simp only [Act.put, l1, l2, l3, l4, l5, l6]
      refine tk 4 (v := ?_) rfl (Or.inl ⟨by rfl, ?_⟩) ?_; rotate_left
      · intro w hSw; (try dsimp only at hSw); go_simp; try with_reducible rfl
      try simp only [Act.put, l1, l2, l3, l4, l5, l6]
      refine tk 5 (v := ?_) rfl (Or.inl ⟨by rfl, ?_⟩) ?_; rotate_left
      · intro w hSw; (try dsimp only at hSw); go_simp; try with_reducible rfl
      try simp only [Act.put, l1, l2, l3, l4, l5, l6]
      refine tk 6 (v := ?_) rfl (Or.inl ⟨by rfl, ?_⟩) ?_; rotate_left
      · intro w hSw; (try dsimp only at hSw); go_simp; try with_reducible rfl
      try simp only [Act.put, l1, l2, l3, l4, l5, l6]
      refine tk 7 (v := ?_) rfl (Or.inl ⟨by rfl, ?_⟩) ?_; rotate_left
      · intro w hSw; (try dsimp only at hSw); go_simp; try with_reducible rfl
      try simp only [Act.put, l1, l2, l3, l4, l5, l6]
      refine tk 8 (v := ?_) rfl (Or.inl ⟨by rfl, ?_⟩) ?_; rotate_left
      · intro w hSw; (try dsimp only at hSw); go_simp; try with_reducible rfl
      try simp only [Act.put, l1, l2, l3, l4, l5, l6]
      refine tk 9 (v := ?_) rfl (Or.inl ⟨by rfl, ?_⟩) ?_; rotate_left
      · intro w hSw; (try dsimp only at hSw); go_simp; try with_reducible rfl
      try simp only [Act.put, l1, l2, l3, l4, l5, l6]
      refine tk 10 (v := ?_) rfl (Or.inl ⟨by rfl, ?_⟩) ?_; rotate_left
      · intro w hSw; (try dsimp only at hSw); go_simp; try with_reducible rfl
      try simp only [Act.put, l1, l2, l3, l4, l5, l6]
      refine tk 11 (v := ?_) rfl (Or.inl ⟨by rfl, ?_⟩) ?_; rotate_left
      · intro w hSw; (try dsimp only at hSw); go_simp; try with_reducible rfl
      try simp only [Act.put, l1, l2, l3, l4, l5, l6]
      refine tk 12 (v := ?_) rfl (Or.inl ⟨by rfl, ?_⟩) ?_; rotate_left
      · intro w hSw; (try dsimp only at hSw); go_simp; try with_reducible rfl
      try simp only [Act.put, l1, l2, l3, l4, l5, l6]
      refine tk 13 (v := ?_) rfl (Or.inl ⟨by rfl, ?_⟩) ?_; rotate_left
      · intro w hSw; (try dsimp only at hSw); go_simp; try with_reducible rfl
      try simp only [Act.put, l1, l2, l3, l4, l5, l6]
      refine tk 14 (v := ?_) rfl (Or.inl ⟨by rfl, ?_⟩) ?_; rotate_left
      · intro w hSw; (try dsimp only at hSw); go_simp; try with_reducible rfl
      try simp only [Act.put, l1, l2, l3, l4, l5, l6]
      refine tk 15 (v := ?_) rfl (Or.inl ⟨by rfl, ?_⟩) ?_; rotate_left
      · intro w hSw; (try dsimp only at hSw); go_simp; try with_reducible rfl
      try simp only [Act.put, l1, l2, l3, l4, l5, l6]
      refine tk 16 (v := ?_) rfl (Or.inl ⟨by rfl, ?_⟩) ?_; rotate_left
      · intro w hSw; (try dsimp only at hSw); go_simp; try with_reducible rfl
      try simp only [Act.put, l1, l2, l3, l4, l5, l6]
      refine tk 17 (v := ?_) rfl (Or.inl ⟨by rfl, ?_⟩) ?_; rotate_left
      · intro w hSw; (try dsimp only at hSw); go_simp; try with_reducible rfl
      try simp only [Act.put, l1, l2, l3, l4, l5, l6]
      refine tk 18 (v := ?_) rfl (Or.inl ⟨by rfl, ?_⟩) ?_; rotate_left
      · intro w hSw; (try dsimp only at hSw); go_simp; try with_reducible rfl
      try simp only [Act.put, l1, l2, l3, l4, l5, l6]
      refine tk 19 (v := ?_) rfl (Or.inl ⟨by rfl, ?_⟩) ?_; rotate_left
      · intro w hSw; (try dsimp only at hSw); go_simp; try with_reducible rfl
      try simp only [Act.put, l1, l2, l3, l4, l5, l6]
      refine tk 20 (v := ?_) rfl (Or.inl ⟨by rfl, ?_⟩) ?_; rotate_left
      · intro w hSw; (try dsimp only at hSw); go_simp; try with_reducible rfl
      try simp only [Act.put, l1, l2, l3, l4, l5, l6]
      refine tk 21 (v := ?_) rfl (Or.inl ⟨by rfl, ?_⟩) ?_; rotate_left
      · intro w hSw; (try dsimp only at hSw); go_simp; try with_reducible rfl
      try simp only [Act.put, l1, l2, l3, l4, l5, l6]
      refine tk 22 (v := ?_) rfl (Or.inl ⟨by rfl, ?_⟩) ?_; rotate_left
      · intro w hSw; (try dsimp only at hSw); go_simp; try with_reducible rfl
      try simp only [Act.put, l1, l2, l3, l4, l5, l6]
      refine tk 23 (v := ?_) rfl (Or.inl ⟨by rfl, ?_⟩) ?_; rotate_left
      · intro w hSw; (try dsimp only at hSw); go_simp; try with_reducible rfl
      try simp only [Act.put, l1, l2, l3, l4, l5, l6]
      refine tk 24 (v := ?_) rfl (Or.inl ⟨by rfl, ?_⟩) ?_; rotate_left
      · intro w hSw; (try dsimp only at hSw); go_simp; try with_reducible rfl
      try simp only [Act.put, l1, l2, l3, l4, l5, l6]
      refine tk 25 (v := ?_) rfl (Or.inl ⟨by rfl, ?_⟩) ?_; rotate_left
      · intro w hSw; (try dsimp only at hSw); go_simp; try with_reducible rfl
      try simp only [Act.put, l1, l2, l3, l4, l5, l6]
      refine tk 26 (v := ?_) rfl (Or.inl ⟨by rfl, ?_⟩) ?_; rotate_left
      · intro w hSw; (try dsimp only at hSw); go_simp; try with_reducible rfl
      try simp only [Act.put, l1, l2, l3, l4, l5, l6]
      refine tk 27 (v := ?_) rfl (Or.inl ⟨by rfl, ?_⟩) ?_; rotate_left
      · intro w hSw; (try dsimp only at hSw); go_simp; try with_reducible rfl
      try simp only [Act.put, l1, l2, l3, l4, l5, l6]
      refine tk 28 (v := ?_) rfl (Or.inl ⟨by rfl, ?_⟩) ?_; rotate_left
      · intro w hSw; (try dsimp only at hSw); go_simp; try with_reducible rfl
      try simp only [Act.put, l1, l2, l3, l4, l5, l6]
      refine tk 29 (v := ?_) rfl (Or.inl ⟨by rfl, ?_⟩) ?_; rotate_left
      · intro w hSw; (try dsimp only at hSw); go_simp; try with_reducible rfl
      try simp only [Act.put, l1, l2, l3, l4, l5, l6]
      refine wpAnyH_done (by kernel_rfl) ?_ _
      clear hHeld
      obtain ⟨xs0, xsz0, xs1, xsz1, xs2, xsz2, xs3, xsz3, xs4, xsz4, xs5, xsz5⟩ := xs.f6
      obtain ⟨xd0, xdz0, xd1, xdz1, xd2, xdz2, xd3, xdz3, xd4, xdz4, xd5, xdz5⟩ := xd.f6
      go_wp2
      go_ret
      exact ⟨rfl, hB⟩
  | 3, _ =>
    have hb : (wrap64 (n.toNat : Int)).tmod 4 = 3 := hb
    have hs1 : sensor 3 = true := rfl
    have IA := iso_of hl.i hs1
    obtain ⟨b1, b2, b3⟩ := bits_iso hl.i 3 (by decide)
    rw [show ((2 : Int) ^ 3) = 8 from rfl] at b1 b2 b3
    have hE5 : deltaE s ⟨5, 3, 0, 0⟩ = if isIso s.iso 3 = false ∧ (soundN s.iso : Int) - 1 < needsN s.mode then 24 else 0 := by show isoE s 3 = _; unfold isoE; rw [hs1, if_neg (by decide)]; rfl
    have lC := delta_legal ⟨5, 3, 0, 0⟩ hl
    have hE6 : ∀ w : St, deltaE w ⟨6, 3, 0, 0⟩ = 0 := fun w => by show (if sensor 3 = false then 1 else 0) = _; rw [hs1, if_neg (by decide)]
    cases hi : isIso s.iso 3 with
    | false =>
      rw [hi] at b1
      by_cases hn : (soundN s.iso : Int) - 1 < needsN s.mode
      · rw [hi, if_pos ⟨rfl, hn⟩] at hE5
        have hR := delta_err (s := s) (c := ⟨5, 3, 0, 0⟩) (by rw [hE5]; decide)
        have T3 := Lib.hid (fun (V : World) => (show Calls Try.prog 13 #[.agg #[.int .i64 s.mode, .bool s.armed, .bool s.home, .int .i64 s.lat, .int .i64 s.lon, .int .i64 s.iso], .agg #[.int .i64 5, .int .i64 3, .float .f64 0, .float .f64 0]] V fun e W' => e = .returned (.tuple #[.agg #[.int .i64 s.mode, .bool s.armed, .bool s.home, .int .i64 s.lat, .int .i64 s.lon, .int .i64 s.iso], .int .i64 24]) ∧ Below V.heap.size V W' from by have h := own16Delta s ⟨5, 3, 0, 0⟩ V hl ⟨by decide, by decide, by show (0 : Nat) < 2 ^ 64; decide, by show (0 : Nat) < 2 ^ 64; decide⟩; rw [hE5, hR] at h; exact h))
        have T4 := Lib.hid (fun (V : World) => own16Delta s ⟨6, 3, 0, 0⟩ V hl ⟨by decide, by decide, by show (0 : Nat) < 2 ^ 64; decide, by show (0 : Nat) < 2 ^ 64; decide⟩)
        rw [hE6] at T4
        generalize deltaS s ⟨6, 3, 0, 0⟩ = w at *
        clear hE5 hE6 lC IA b1 b2 b3 hi hs1 hI hl hR hn
        obtain ⟨wm, wa, wh, wl, wo, wi⟩ := w
        dsimp only at T4
        go_wp2_with fail
        refine (T3.out _).mono ?_
        rintro e V8 ⟨rfl, hk⟩
        clear xs0 xsz0 xs1 xsz1 xs2 xsz2 xs3 xsz3 xs4 xsz4 xs5 xsz5 xb0 xbz0 xb1 xbz1 xb2 xbz2 xb3 xbz3 xb4 xbz4 xb5 xbz5
        replace hB := below_seq hB hk
        replace xs := xs.seq hk
        replace xb := xb.seq hk
        clear hk
        have xc := Box.new 23 V8 [.int .i64 s.mode, .bool s.armed, .bool s.home, .int .i64 s.lat, .int .i64 s.lon, .int .i64 s.iso]
        have ne_xc_xs : V8.heap.size ≠ W.heap.size := Nat.ne_of_gt xs.lt
        have le_xc : W.heap.size ≤ V8.heap.size := hB.size
        replace xs := xs.alloc (.cells #[.int .i64 s.mode, .bool s.armed, .bool s.home, .int .i64 s.lat, .int .i64 s.lon, .int .i64 s.iso] 23)
        replace hB := hB.alloc hB.size (.cells #[.int .i64 s.mode, .bool s.armed, .bool s.home, .int .i64 s.lat, .int .i64 s.lon, .int .i64 s.iso] 23)
        obtain ⟨xc0, xcz0, xc1, xcz1, xc2, xcz2, xc3, xcz3, xc4, xcz4, xc5, xcz5⟩ := xc.f6
        go_wp2_with fail
        refine (T4.out _).mono ?_
        rintro e V9 ⟨rfl, hk⟩
        clear xc0 xcz0 xc1 xcz1 xc2 xcz2 xc3 xcz3 xc4 xcz4 xc5 xcz5
        replace hB := below_seq hB hk
        replace xs := xs.seq hk
        replace xc := xc.seq hk
        clear hk
        have xd := Box.new 23 V9 [.int .i64 wm, .bool wa, .bool wh, .int .i64 wl, .int .i64 wo, .int .i64 wi]
        have ne_xd_xs : V9.heap.size ≠ W.heap.size := Nat.ne_of_gt xs.lt
        have le_xd : W.heap.size ≤ V9.heap.size := hB.size
        replace xs := xs.alloc (.cells #[.int .i64 wm, .bool wa, .bool wh, .int .i64 wl, .int .i64 wo, .int .i64 wi] 23)
        replace hB := hB.alloc hB.size (.cells #[.int .i64 wm, .bool wa, .bool wh, .int .i64 wl, .int .i64 wo, .int .i64 wi] 23)
        obtain ⟨xs0, xsz0, xs1, xsz1, xs2, xsz2, xs3, xsz3, xs4, xsz4, xs5, xsz5⟩ := xs.f6
        obtain ⟨xd0, xdz0, xd1, xdz1, xd2, xdz2, xd3, xdz3, xd4, xdz4, xd5, xdz5⟩ := xd.f6
        go_wp2_with fail
        clear xs0 xsz0 xs1 xsz1 xs2 xsz2 xs3 xsz3 xs4 xsz4 xs5 xsz5 xd0 xdz0 xd1 xdz1 xd2 xdz2 xd3 xdz3 xd4 xdz4 xd5 xdz5
        generalize (V9.alloc (.cells #[.int .i64 wm, .bool wa, .bool wh, .int .i64 wl, .int .i64 wo, .int .i64 wi] 23)) = V10 at *
        replace hB := hB.drew
        replace xs := xs.drew
        replace xd := xd.drew
        refine wp_region_held_drew (S := fun w' => w'.cell? ⟨W.heap.size, 0, none⟩ = some (.int .i64 s.mode) ∧ w'.cell? ⟨W.heap.size, 1, none⟩ = some (.bool s.armed) ∧ w'.cell? ⟨W.heap.size, 2, none⟩ = some (.bool s.home) ∧ w'.cell? ⟨W.heap.size, 3, none⟩ = some (.int .i64 s.lat) ∧ w'.cell? ⟨W.heap.size, 4, none⟩ = some (.int .i64 s.lon) ∧ w'.cell? ⟨W.heap.size, 5, none⟩ = some (.int .i64 s.iso) ∧ w'.cell? ⟨V9.heap.size, 0, none⟩ = some (.int .i64 wm) ∧ w'.cell? ⟨V9.heap.size, 1, none⟩ = some (.bool wa) ∧ w'.cell? ⟨V9.heap.size, 2, none⟩ = some (.bool wh) ∧ w'.cell? ⟨V9.heap.size, 3, none⟩ = some (.int .i64 wl) ∧ w'.cell? ⟨V9.heap.size, 4, none⟩ = some (.int .i64 wo) ∧ w'.cell? ⟨V9.heap.size, 5, none⟩ = some (.int .i64 wi)) (by kernel_rfl) ?_ (fun hHeld => ?_)
        · exact ⟨xs.cell 0 rfl, xs.cell 1 rfl, xs.cell 2 rfl, xs.cell 3 rfl, xs.cell 4 rfl, xs.cell 5 rfl, xd.cell 0 rfl, xd.cell 1 rfl, xd.cell 2 rfl, xd.cell 3 rfl, xd.cell 4 rfl, xd.cell 5 rfl⟩
        generalize V10.drew = V11 at *
        refine tk 0 (v := ?_) rfl (Or.inl ⟨by rfl, ?_⟩) ?_; rotate_left
        · intro w hSw; (try dsimp only at hSw); go_simp; try with_reducible rfl
        try simp only [Act.put, l1, l2, l3, l4, l5, l6]
        refine tk 1 (v := ?_) rfl (Or.inl ⟨by rfl, ?_⟩) ?_; rotate_left
        · intro w hSw; (try dsimp only at hSw); go_simp; try with_reducible rfl
        try simp only [Act.put, l1, l2, l3, l4, l5, l6]
        refine tk 2 (v := ?_) rfl (Or.inl ⟨by rfl, ?_⟩) ?_; rotate_left
        · intro w hSw; (try dsimp only at hSw); go_simp; try with_reducible rfl
        try simp only [Act.put, l1, l2, l3, l4, l5, l6]
        refine wpAnyH_take (i := 3) (v := undef) rfl (by kernel_rfl) (by kernel_rfl) (by kernel_rfl) (fun _ _ _ h => h) (Or.inr ⟨by rfl, rfl⟩) (by assumption) ?_
        try simp only [Act.put, l1, l2, l3, l4, l5, l6]
        refine wpAnyH_take (i := 4) (v := undef) rfl (by kernel_rfl) (by kernel_rfl) (by kernel_rfl) (fun _ _ _ h => h) (Or.inr ⟨by rfl, rfl⟩) (by assumption) ?_
        try simp only [Act.put, l1, l2, l3, l4, l5, l6]
        refine wpAnyH_take (i := 5) (v := undef) rfl (by kernel_rfl) (by kernel_rfl) (by kernel_rfl) (fun _ _ _ h => h) (Or.inr ⟨by rfl, rfl⟩) (by assumption) ?_
        try simp only [Act.put, l1, l2, l3, l4, l5, l6]
        refine wpAnyH_take (i := 6) (v := undef) rfl (by kernel_rfl) (by kernel_rfl) (by kernel_rfl) (fun _ _ _ h => h) (Or.inr ⟨by rfl, rfl⟩) (by assumption) ?_
        try simp only [Act.put, l1, l2, l3, l4, l5, l6]
        refine wpAnyH_take (i := 7) (v := undef) rfl (by kernel_rfl) (by kernel_rfl) (by kernel_rfl) (fun _ _ _ h => h) (Or.inr ⟨by rfl, rfl⟩) (by assumption) ?_
        try simp only [Act.put, l1, l2, l3, l4, l5, l6]
        refine wpAnyH_take (i := 8) (v := undef) rfl (by kernel_rfl) (by kernel_rfl) (by kernel_rfl) (fun _ _ _ h => h) (Or.inr ⟨by rfl, rfl⟩) (by assumption) ?_
        try simp only [Act.put, l1, l2, l3, l4, l5, l6]
        refine wpAnyH_take (i := 9) (v := undef) rfl (by kernel_rfl) (by kernel_rfl) (by kernel_rfl) (fun _ _ _ h => h) (Or.inr ⟨by rfl, rfl⟩) (by assumption) ?_
        try simp only [Act.put, l1, l2, l3, l4, l5, l6]
        refine wpAnyH_take (i := 10) (v := undef) rfl (by kernel_rfl) (by kernel_rfl) (by kernel_rfl) (fun _ _ _ h => h) (Or.inr ⟨by rfl, rfl⟩) (by assumption) ?_
        try simp only [Act.put, l1, l2, l3, l4, l5, l6]
        refine wpAnyH_take (i := 11) (v := undef) rfl (by kernel_rfl) (by kernel_rfl) (by kernel_rfl) (fun _ _ _ h => h) (Or.inr ⟨by rfl, rfl⟩) (by assumption) ?_
        try simp only [Act.put, l1, l2, l3, l4, l5, l6]
        refine wpAnyH_take (i := 12) (v := undef) rfl (by kernel_rfl) (by kernel_rfl) (by kernel_rfl) (fun _ _ _ h => h) (Or.inr ⟨by rfl, rfl⟩) (by assumption) ?_
        try simp only [Act.put, l1, l2, l3, l4, l5, l6]
        refine wpAnyH_take (i := 13) (v := undef) rfl (by kernel_rfl) (by kernel_rfl) (by kernel_rfl) (fun _ _ _ h => h) (Or.inr ⟨by rfl, rfl⟩) (by assumption) ?_
        try simp only [Act.put, l1, l2, l3, l4, l5, l6]
        refine wpAnyH_take (i := 14) (v := undef) rfl (by kernel_rfl) (by kernel_rfl) (by kernel_rfl) (fun _ _ _ h => h) (Or.inr ⟨by rfl, rfl⟩) (by assumption) ?_
        try simp only [Act.put, l1, l2, l3, l4, l5, l6]
        refine wpAnyH_take (i := 15) (v := undef) rfl (by kernel_rfl) (by kernel_rfl) (by kernel_rfl) (fun _ _ _ h => h) (Or.inr ⟨by rfl, rfl⟩) (by assumption) ?_
        try simp only [Act.put, l1, l2, l3, l4, l5, l6]
        refine wpAnyH_take (i := 16) (v := undef) rfl (by kernel_rfl) (by kernel_rfl) (by kernel_rfl) (fun _ _ _ h => h) (Or.inr ⟨by rfl, rfl⟩) (by assumption) ?_
        try simp only [Act.put, l1, l2, l3, l4, l5, l6]
        refine wpAnyH_take (i := 17) (v := undef) rfl (by kernel_rfl) (by kernel_rfl) (by kernel_rfl) (fun _ _ _ h => h) (Or.inr ⟨by rfl, rfl⟩) (by assumption) ?_
        try simp only [Act.put, l1, l2, l3, l4, l5, l6]
        refine wpAnyH_take (i := 18) (v := undef) rfl (by kernel_rfl) (by kernel_rfl) (by kernel_rfl) (fun _ _ _ h => h) (Or.inr ⟨by rfl, rfl⟩) (by assumption) ?_
        try simp only [Act.put, l1, l2, l3, l4, l5, l6]
        refine wpAnyH_take (i := 19) (v := undef) rfl (by kernel_rfl) (by kernel_rfl) (by kernel_rfl) (fun _ _ _ h => h) (Or.inr ⟨by rfl, rfl⟩) (by assumption) ?_
        try simp only [Act.put, l1, l2, l3, l4, l5, l6]
        refine wpAnyH_take (i := 20) (v := undef) rfl (by kernel_rfl) (by kernel_rfl) (by kernel_rfl) (fun _ _ _ h => h) (Or.inr ⟨by rfl, rfl⟩) (by assumption) ?_
        try simp only [Act.put, l1, l2, l3, l4, l5, l6]
        refine wpAnyH_take (i := 21) (v := undef) rfl (by kernel_rfl) (by kernel_rfl) (by kernel_rfl) (fun _ _ _ h => h) (Or.inr ⟨by rfl, rfl⟩) (by assumption) ?_
        try simp only [Act.put, l1, l2, l3, l4, l5, l6]
        refine wpAnyH_take (i := 22) (v := undef) rfl (by kernel_rfl) (by kernel_rfl) (by kernel_rfl) (fun _ _ _ h => h) (Or.inr ⟨by rfl, rfl⟩) (by assumption) ?_
        try simp only [Act.put, l1, l2, l3, l4, l5, l6]
        refine wpAnyH_take (i := 23) (v := undef) rfl (by kernel_rfl) (by kernel_rfl) (by kernel_rfl) (fun _ _ _ h => h) (Or.inr ⟨by rfl, rfl⟩) (by assumption) ?_
        try simp only [Act.put, l1, l2, l3, l4, l5, l6]
        refine wpAnyH_take (i := 24) (v := undef) rfl (by kernel_rfl) (by kernel_rfl) (by kernel_rfl) (fun _ _ _ h => h) (Or.inr ⟨by rfl, rfl⟩) (by assumption) ?_
        try simp only [Act.put, l1, l2, l3, l4, l5, l6]
        refine wpAnyH_take (i := 25) (v := undef) rfl (by kernel_rfl) (by kernel_rfl) (by kernel_rfl) (fun _ _ _ h => h) (Or.inr ⟨by rfl, rfl⟩) (by assumption) ?_
        try simp only [Act.put, l1, l2, l3, l4, l5, l6]
        refine wpAnyH_take (i := 26) (v := undef) rfl (by kernel_rfl) (by kernel_rfl) (by kernel_rfl) (fun _ _ _ h => h) (Or.inr ⟨by rfl, rfl⟩) (by assumption) ?_
        try simp only [Act.put, l1, l2, l3, l4, l5, l6]
        refine wpAnyH_take (i := 27) (v := undef) rfl (by kernel_rfl) (by kernel_rfl) (by kernel_rfl) (fun _ _ _ h => h) (Or.inr ⟨by rfl, rfl⟩) (by assumption) ?_
        try simp only [Act.put, l1, l2, l3, l4, l5, l6]
        refine tk 28 (v := ?_) rfl (Or.inl ⟨by rfl, ?_⟩) ?_; rotate_left
        · intro w hSw; (try dsimp only at hSw); go_simp; try with_reducible rfl
        try simp only [Act.put, l1, l2, l3, l4, l5, l6]
        refine tk 29 (v := ?_) rfl (Or.inl ⟨by rfl, ?_⟩) ?_; rotate_left
        · intro w hSw; (try dsimp only at hSw); go_simp; try with_reducible rfl
        try simp only [Act.put, l1, l2, l3, l4, l5, l6]
        refine wpAnyH_done (by kernel_rfl) ?_ _
        clear hHeld
        obtain ⟨xs0, xsz0, xs1, xsz1, xs2, xsz2, xs3, xsz3, xs4, xsz4, xs5, xsz5⟩ := xs.f6
        obtain ⟨xd0, xdz0, xd1, xdz1, xd2, xdz2, xd3, xdz3, xd4, xdz4, xd5, xdz5⟩ := xd.f6
        go_wp2
        go_ret
        exact ⟨rfl, hB⟩
      · rw [hi, if_neg (fun k => hn k.2)] at hE5
        have hR : deltaS s ⟨5, 3, 0, 0⟩ = setIso s (orI s.iso 3) := delta_done hE5
        have T3 := Lib.hid (fun (V : World) => (show Calls Try.prog 13 #[.agg #[.int .i64 s.mode, .bool s.armed, .bool s.home, .int .i64 s.lat, .int .i64 s.lon, .int .i64 s.iso], .agg #[.int .i64 5, .int .i64 3, .float .f64 0, .float .f64 0]] V fun e W' => e = .returned (.tuple #[.agg #[.int .i64 s.mode, .bool s.armed, .bool s.home, .int .i64 s.lat, .int .i64 s.lon, .int .i64 (orI s.iso 3)], .int .i64 0]) ∧ Below V.heap.size V W' from by have h := own16Delta s ⟨5, 3, 0, 0⟩ V hl ⟨by decide, by decide, by show (0 : Nat) < 2 ^ 64; decide, by show (0 : Nat) < 2 ^ 64; decide⟩; rw [hE5, hR] at h; exact h))
        rw [hR] at lC
        have hX : deltaS (setIso s (orI s.iso 3)) ⟨6, 3, 0, 0⟩ = s := by
          rw [delta_done (hE6 _)]
          show setIso s (clI (orI s.iso 3) 3) = s
          have e1 : clI (orI s.iso 3) 3 = clI s.iso 3 := IA.co
          have e2 : clI s.iso 3 = s.iso := IA.cn hi
          rw [e1, e2]; rfl
        have T4 := Lib.hid (fun (V : World) => (show Calls Try.prog 13 #[.agg #[.int .i64 s.mode, .bool s.armed, .bool s.home, .int .i64 s.lat, .int .i64 s.lon, .int .i64 (orI s.iso 3)], .agg #[.int .i64 6, .int .i64 3, .float .f64 0, .float .f64 0]] V fun e W' => e = .returned (.tuple #[.agg #[.int .i64 s.mode, .bool s.armed, .bool s.home, .int .i64 s.lat, .int .i64 s.lon, .int .i64 s.iso], .int .i64 0]) ∧ Below V.heap.size V W' from by have h := own16Delta (setIso s (orI s.iso 3)) ⟨6, 3, 0, 0⟩ V lC ⟨by decide, by decide, by show (0 : Nat) < 2 ^ 64; decide, by show (0 : Nat) < 2 ^ 64; decide⟩; rw [hE6, hX] at h; exact h))
        clear hE5 hE6 lC IA b1 b2 b3 hi hs1 hI hl hR hn hX
        generalize orI s.iso 3 = y at *
        go_wp2_with fail
        refine (T3.out _).mono ?_
        rintro e V8 ⟨rfl, hk⟩
        clear xs0 xsz0 xs1 xsz1 xs2 xsz2 xs3 xsz3 xs4 xsz4 xs5 xsz5 xb0 xbz0 xb1 xbz1 xb2 xbz2 xb3 xbz3 xb4 xbz4 xb5 xbz5
        replace hB := below_seq hB hk
        replace xs := xs.seq hk
        replace xb := xb.seq hk
        clear hk
        have xc := Box.new 23 V8 [.int .i64 s.mode, .bool s.armed, .bool s.home, .int .i64 s.lat, .int .i64 s.lon, .int .i64 y]
        have ne_xc_xs : V8.heap.size ≠ W.heap.size := Nat.ne_of_gt xs.lt
        have le_xc : W.heap.size ≤ V8.heap.size := hB.size
        replace xs := xs.alloc (.cells #[.int .i64 s.mode, .bool s.armed, .bool s.home, .int .i64 s.lat, .int .i64 s.lon, .int .i64 y] 23)
        replace hB := hB.alloc hB.size (.cells #[.int .i64 s.mode, .bool s.armed, .bool s.home, .int .i64 s.lat, .int .i64 s.lon, .int .i64 y] 23)
        obtain ⟨xc0, xcz0, xc1, xcz1, xc2, xcz2, xc3, xcz3, xc4, xcz4, xc5, xcz5⟩ := xc.f6
        go_wp2_with fail
        refine (T4.out _).mono ?_
        rintro e V9 ⟨rfl, hk⟩
        clear xc0 xcz0 xc1 xcz1 xc2 xcz2 xc3 xcz3 xc4 xcz4 xc5 xcz5
        replace hB := below_seq hB hk
        replace xs := xs.seq hk
        replace xc := xc.seq hk
        clear hk
        have xd := Box.new 23 V9 [.int .i64 s.mode, .bool s.armed, .bool s.home, .int .i64 s.lat, .int .i64 s.lon, .int .i64 s.iso]
        have ne_xd_xs : V9.heap.size ≠ W.heap.size := Nat.ne_of_gt xs.lt
        have le_xd : W.heap.size ≤ V9.heap.size := hB.size
        replace xs := xs.alloc (.cells #[.int .i64 s.mode, .bool s.armed, .bool s.home, .int .i64 s.lat, .int .i64 s.lon, .int .i64 s.iso] 23)
        replace hB := hB.alloc hB.size (.cells #[.int .i64 s.mode, .bool s.armed, .bool s.home, .int .i64 s.lat, .int .i64 s.lon, .int .i64 s.iso] 23)
        obtain ⟨xs0, xsz0, xs1, xsz1, xs2, xsz2, xs3, xsz3, xs4, xsz4, xs5, xsz5⟩ := xs.f6
        obtain ⟨xd0, xdz0, xd1, xdz1, xd2, xdz2, xd3, xdz3, xd4, xdz4, xd5, xdz5⟩ := xd.f6
        go_wp2_with fail
        clear xs0 xsz0 xs1 xsz1 xs2 xsz2 xs3 xsz3 xs4 xsz4 xs5 xsz5 xd0 xdz0 xd1 xdz1 xd2 xdz2 xd3 xdz3 xd4 xdz4 xd5 xdz5
        generalize (V9.alloc (.cells #[.int .i64 s.mode, .bool s.armed, .bool s.home, .int .i64 s.lat, .int .i64 s.lon, .int .i64 s.iso] 23)) = V10 at *
        replace hB := hB.drew
        replace xs := xs.drew
        replace xd := xd.drew
        refine wp_region_held_drew (S := fun w' => w'.cell? ⟨W.heap.size, 0, none⟩ = some (.int .i64 s.mode) ∧ w'.cell? ⟨W.heap.size, 1, none⟩ = some (.bool s.armed) ∧ w'.cell? ⟨W.heap.size, 2, none⟩ = some (.bool s.home) ∧ w'.cell? ⟨W.heap.size, 3, none⟩ = some (.int .i64 s.lat) ∧ w'.cell? ⟨W.heap.size, 4, none⟩ = some (.int .i64 s.lon) ∧ w'.cell? ⟨W.heap.size, 5, none⟩ = some (.int .i64 s.iso) ∧ w'.cell? ⟨V9.heap.size, 0, none⟩ = some (.int .i64 s.mode) ∧ w'.cell? ⟨V9.heap.size, 1, none⟩ = some (.bool s.armed) ∧ w'.cell? ⟨V9.heap.size, 2, none⟩ = some (.bool s.home) ∧ w'.cell? ⟨V9.heap.size, 3, none⟩ = some (.int .i64 s.lat) ∧ w'.cell? ⟨V9.heap.size, 4, none⟩ = some (.int .i64 s.lon) ∧ w'.cell? ⟨V9.heap.size, 5, none⟩ = some (.int .i64 s.iso)) (by kernel_rfl) ?_ (fun hHeld => ?_)
        · exact ⟨xs.cell 0 rfl, xs.cell 1 rfl, xs.cell 2 rfl, xs.cell 3 rfl, xs.cell 4 rfl, xs.cell 5 rfl, xd.cell 0 rfl, xd.cell 1 rfl, xd.cell 2 rfl, xd.cell 3 rfl, xd.cell 4 rfl, xd.cell 5 rfl⟩
        generalize V10.drew = V11 at *
        refine tk 0 (v := ?_) rfl (Or.inl ⟨by rfl, ?_⟩) ?_; rotate_left
        · intro w hSw; (try dsimp only at hSw); go_simp; try with_reducible rfl
        try simp only [Act.put, l1, l2, l3, l4, l5, l6]
        refine tk 1 (v := ?_) rfl (Or.inl ⟨by rfl, ?_⟩) ?_; rotate_left
        · intro w hSw; (try dsimp only at hSw); go_simp; try with_reducible rfl
        try simp only [Act.put, l1, l2, l3, l4, l5, l6]
        refine tk 2 (v := ?_) rfl (Or.inl ⟨by rfl, ?_⟩) ?_; rotate_left
        · intro w hSw; (try dsimp only at hSw); go_simp; try with_reducible rfl
        try simp only [Act.put, l1, l2, l3, l4, l5, l6]
        refine tk 3 (v := ?_) rfl (Or.inl ⟨by rfl, ?_⟩) ?_; rotate_left
        · intro w hSw; (try dsimp only at hSw); go_simp; try with_reducible rfl
        try simp only [Act.put, l1, l2, l3, l4, l5, l6]
        refine tk 4 (v := ?_) rfl (Or.inl ⟨by rfl, ?_⟩) ?_; rotate_left
        · intro w hSw; (try dsimp only at hSw); go_simp; try with_reducible rfl
        try simp only [Act.put, l1, l2, l3, l4, l5, l6]
        refine tk 5 (v := ?_) rfl (Or.inl ⟨by rfl, ?_⟩) ?_; rotate_left
        · intro w hSw; (try dsimp only at hSw); go_simp; try with_reducible rfl
        try simp only [Act.put, l1, l2, l3, l4, l5, l6]
        refine tk 6 (v := ?_) rfl (Or.inl ⟨by rfl, ?_⟩) ?_; rotate_left
        · intro w hSw; (try dsimp only at hSw); go_simp; try with_reducible rfl
        try simp only [Act.put, l1, l2, l3, l4, l5, l6]
        refine tk 7 (v := ?_) rfl (Or.inl ⟨by rfl, ?_⟩) ?_; rotate_left
        · intro w hSw; (try dsimp only at hSw); go_simp; try with_reducible rfl
        try simp only [Act.put, l1, l2, l3, l4, l5, l6]
        refine tk 8 (v := ?_) rfl (Or.inl ⟨by rfl, ?_⟩) ?_; rotate_left
        · intro w hSw; (try dsimp only at hSw); go_simp; try with_reducible rfl
        try simp only [Act.put, l1, l2, l3, l4, l5, l6]
        refine tk 9 (v := ?_) rfl (Or.inl ⟨by rfl, ?_⟩) ?_; rotate_left
        · intro w hSw; (try dsimp only at hSw); go_simp; try with_reducible rfl
        try simp only [Act.put, l1, l2, l3, l4, l5, l6]
        refine wpAnyH_take (i := 10) (v := undef) rfl (by kernel_rfl) (by kernel_rfl) (by kernel_rfl) (fun _ _ _ h => h) (Or.inr ⟨by rfl, rfl⟩) (by assumption) ?_
        try simp only [Act.put, l1, l2, l3, l4, l5, l6]
        refine wpAnyH_take (i := 11) (v := undef) rfl (by kernel_rfl) (by kernel_rfl) (by kernel_rfl) (fun _ _ _ h => h) (Or.inr ⟨by rfl, rfl⟩) (by assumption) ?_
        try simp only [Act.put, l1, l2, l3, l4, l5, l6]
        refine wpAnyH_take (i := 12) (v := undef) rfl (by kernel_rfl) (by kernel_rfl) (by kernel_rfl) (fun _ _ _ h => h) (Or.inr ⟨by rfl, rfl⟩) (by assumption) ?_
        try simp only [Act.put, l1, l2, l3, l4, l5, l6]
        refine wpAnyH_take (i := 13) (v := undef) rfl (by kernel_rfl) (by kernel_rfl) (by kernel_rfl) (fun _ _ _ h => h) (Or.inr ⟨by rfl, rfl⟩) (by assumption) ?_
        try simp only [Act.put, l1, l2, l3, l4, l5, l6]
        refine wpAnyH_take (i := 14) (v := undef) rfl (by kernel_rfl) (by kernel_rfl) (by kernel_rfl) (fun _ _ _ h => h) (Or.inr ⟨by rfl, rfl⟩) (by assumption) ?_
        try simp only [Act.put, l1, l2, l3, l4, l5, l6]
        refine wpAnyH_take (i := 15) (v := undef) rfl (by kernel_rfl) (by kernel_rfl) (by kernel_rfl) (fun _ _ _ h => h) (Or.inr ⟨by rfl, rfl⟩) (by assumption) ?_
        try simp only [Act.put, l1, l2, l3, l4, l5, l6]
        refine wpAnyH_take (i := 16) (v := undef) rfl (by kernel_rfl) (by kernel_rfl) (by kernel_rfl) (fun _ _ _ h => h) (Or.inr ⟨by rfl, rfl⟩) (by assumption) ?_
        try simp only [Act.put, l1, l2, l3, l4, l5, l6]
        refine wpAnyH_take (i := 17) (v := undef) rfl (by kernel_rfl) (by kernel_rfl) (by kernel_rfl) (fun _ _ _ h => h) (Or.inr ⟨by rfl, rfl⟩) (by assumption) ?_
        try simp only [Act.put, l1, l2, l3, l4, l5, l6]
        refine wpAnyH_take (i := 18) (v := undef) rfl (by kernel_rfl) (by kernel_rfl) (by kernel_rfl) (fun _ _ _ h => h) (Or.inr ⟨by rfl, rfl⟩) (by assumption) ?_
        try simp only [Act.put, l1, l2, l3, l4, l5, l6]
        refine wpAnyH_take (i := 19) (v := undef) rfl (by kernel_rfl) (by kernel_rfl) (by kernel_rfl) (fun _ _ _ h => h) (Or.inr ⟨by rfl, rfl⟩) (by assumption) ?_
        try simp only [Act.put, l1, l2, l3, l4, l5, l6]
        refine wpAnyH_take (i := 20) (v := undef) rfl (by kernel_rfl) (by kernel_rfl) (by kernel_rfl) (fun _ _ _ h => h) (Or.inr ⟨by rfl, rfl⟩) (by assumption) ?_
        try simp only [Act.put, l1, l2, l3, l4, l5, l6]
        refine wpAnyH_take (i := 21) (v := undef) rfl (by kernel_rfl) (by kernel_rfl) (by kernel_rfl) (fun _ _ _ h => h) (Or.inr ⟨by rfl, rfl⟩) (by assumption) ?_
        try simp only [Act.put, l1, l2, l3, l4, l5, l6]
        refine wpAnyH_take (i := 22) (v := undef) rfl (by kernel_rfl) (by kernel_rfl) (by kernel_rfl) (fun _ _ _ h => h) (Or.inr ⟨by rfl, rfl⟩) (by assumption) ?_
        try simp only [Act.put, l1, l2, l3, l4, l5, l6]
        refine wpAnyH_take (i := 23) (v := undef) rfl (by kernel_rfl) (by kernel_rfl) (by kernel_rfl) (fun _ _ _ h => h) (Or.inr ⟨by rfl, rfl⟩) (by assumption) ?_
        try simp only [Act.put, l1, l2, l3, l4, l5, l6]
        refine wpAnyH_take (i := 24) (v := undef) rfl (by kernel_rfl) (by kernel_rfl) (by kernel_rfl) (fun _ _ _ h => h) (Or.inr ⟨by rfl, rfl⟩) (by assumption) ?_
        try simp only [Act.put, l1, l2, l3, l4, l5, l6]
        refine wpAnyH_take (i := 25) (v := undef) rfl (by kernel_rfl) (by kernel_rfl) (by kernel_rfl) (fun _ _ _ h => h) (Or.inr ⟨by rfl, rfl⟩) (by assumption) ?_
        try simp only [Act.put, l1, l2, l3, l4, l5, l6]
        refine tk 26 (v := ?_) rfl (Or.inl ⟨by rfl, ?_⟩) ?_; rotate_left
        · intro w hSw; (try dsimp only at hSw); go_simp; try with_reducible rfl
        try simp only [Act.put, l1, l2, l3, l4, l5, l6]
        refine tk 27 (v := ?_) rfl (Or.inl ⟨by rfl, ?_⟩) ?_; rotate_left
        · intro w hSw; (try dsimp only at hSw); go_simp; try with_reducible rfl
        try simp only [Act.put, l1, l2, l3, l4, l5, l6]
        refine tk 28 (v := ?_) rfl (Or.inl ⟨by rfl, ?_⟩) ?_; rotate_left
        · intro w hSw; (try dsimp only at hSw); go_simp; try with_reducible rfl
        try simp only [Act.put, l1, l2, l3, l4, l5, l6]
        refine tk 29 (v := ?_) rfl (Or.inl ⟨by rfl, ?_⟩) ?_; rotate_left
        · intro w hSw; (try dsimp only at hSw); go_simp; try with_reducible rfl
        try simp only [Act.put, l1, l2, l3, l4, l5, l6]
        refine wpAnyH_done (by kernel_rfl) ?_ _
        clear hHeld
        obtain ⟨xs0, xsz0, xs1, xsz1, xs2, xsz2, xs3, xsz3, xs4, xsz4, xs5, xsz5⟩ := xs.f6
        obtain ⟨xd0, xdz0, xd1, xdz1, xd2, xdz2, xd3, xdz3, xd4, xdz4, xd5, xdz5⟩ := xd.f6
        go_wp2
        go_ret
        exact ⟨rfl, hB⟩
    | true =>
      rw [hi, if_neg (fun k => by cases k.1)] at hE5
      have e1 : orI s.iso 3 = s.iso := (IA.of hi).1
      have hR : deltaS s ⟨5, 3, 0, 0⟩ = s := by
        rw [delta_done hE5]
        show setIso s (orI s.iso 3) = s
        rw [e1]; rfl
      have T3 := Lib.hid (fun (V : World) => (show Calls Try.prog 13 #[.agg #[.int .i64 s.mode, .bool s.armed, .bool s.home, .int .i64 s.lat, .int .i64 s.lon, .int .i64 s.iso], .agg #[.int .i64 5, .int .i64 3, .float .f64 0, .float .f64 0]] V fun e W' => e = .returned (.tuple #[.agg #[.int .i64 s.mode, .bool s.armed, .bool s.home, .int .i64 s.lat, .int .i64 s.lon, .int .i64 s.iso], .int .i64 0]) ∧ Below V.heap.size V W' from by have h := own16Delta s ⟨5, 3, 0, 0⟩ V hl ⟨by decide, by decide, by show (0 : Nat) < 2 ^ 64; decide, by show (0 : Nat) < 2 ^ 64; decide⟩; rw [hE5, hR] at h; exact h))
      have T4 := Lib.hid (fun (V : World) => (show Calls Try.prog 13 #[.agg #[.int .i64 s.mode, .bool s.armed, .bool s.home, .int .i64 s.lat, .int .i64 s.lon, .int .i64 s.iso], .agg #[.int .i64 6, .int .i64 3, .float .f64 0, .float .f64 0]] V fun e W' => e = .returned (.tuple #[.agg #[.int .i64 s.mode, .bool s.armed, .bool s.home, .int .i64 s.lat, .int .i64 s.lon, .int .i64 (clI s.iso 3)], .int .i64 0]) ∧ Below V.heap.size V W' from by have h := own16Delta s ⟨6, 3, 0, 0⟩ V hl ⟨by decide, by decide, by show (0 : Nat) < 2 ^ 64; decide, by show (0 : Nat) < 2 ^ 64; decide⟩; rw [hE6, delta_done (hE6 s)] at h; exact h))
      have d1 : ¬ clI s.iso 3 = s.iso := fun k => by
        have h2 : isIso (clI s.iso 3) 3 = false := IA.ic
        rw [k, hi] at h2; cases h2
      have d3 := i64_and1 (s.iso / 2 ^ 3)
      have d5 : IntKind.i64.wrap 8 = 8 := IntWalk.i64_in _ (by decide)
      have d2 : s.iso / 2 ^ 3 % 2 = 1 := by unfold isIso at hi; exact of_decide_eq_true hi
      rw [d2] at d3
      rw [show ((2 : Int) ^ 3) = 8 from rfl] at d3
      clear hE5 hE6 lC IA b1 b2 hi hs1 hI hl hR e1 d2
      generalize clI s.iso 3 = y at *
      go_wp2_with fail
      refine (T3.out _).mono ?_
      rintro e V8 ⟨rfl, hk⟩
      clear xs0 xsz0 xs1 xsz1 xs2 xsz2 xs3 xsz3 xs4 xsz4 xs5 xsz5 xb0 xbz0 xb1 xbz1 xb2 xbz2 xb3 xbz3 xb4 xbz4 xb5 xbz5
      replace hB := below_seq hB hk
      replace xs := xs.seq hk
      replace xb := xb.seq hk
      clear hk
      have xc := Box.new 23 V8 [.int .i64 s.mode, .bool s.armed, .bool s.home, .int .i64 s.lat, .int .i64 s.lon, .int .i64 s.iso]
      have ne_xc_xs : V8.heap.size ≠ W.heap.size := Nat.ne_of_gt xs.lt
      have le_xc : W.heap.size ≤ V8.heap.size := hB.size
      replace xs := xs.alloc (.cells #[.int .i64 s.mode, .bool s.armed, .bool s.home, .int .i64 s.lat, .int .i64 s.lon, .int .i64 s.iso] 23)
      replace hB := hB.alloc hB.size (.cells #[.int .i64 s.mode, .bool s.armed, .bool s.home, .int .i64 s.lat, .int .i64 s.lon, .int .i64 s.iso] 23)
      obtain ⟨xc0, xcz0, xc1, xcz1, xc2, xcz2, xc3, xcz3, xc4, xcz4, xc5, xcz5⟩ := xc.f6
      go_wp2_with fail
      refine (T4.out _).mono ?_
      rintro e V9 ⟨rfl, hk⟩
      clear xc0 xcz0 xc1 xcz1 xc2 xcz2 xc3 xcz3 xc4 xcz4 xc5 xcz5
      replace hB := below_seq hB hk
      replace xs := xs.seq hk
      replace xc := xc.seq hk
      clear hk
      have xd := Box.new 23 V9 [.int .i64 s.mode, .bool s.armed, .bool s.home, .int .i64 s.lat, .int .i64 s.lon, .int .i64 y]
      have ne_xd_xs : V9.heap.size ≠ W.heap.size := Nat.ne_of_gt xs.lt
      have le_xd : W.heap.size ≤ V9.heap.size := hB.size
      replace xs := xs.alloc (.cells #[.int .i64 s.mode, .bool s.armed, .bool s.home, .int .i64 s.lat, .int .i64 s.lon, .int .i64 y] 23)
      replace hB := hB.alloc hB.size (.cells #[.int .i64 s.mode, .bool s.armed, .bool s.home, .int .i64 s.lat, .int .i64 s.lon, .int .i64 y] 23)
      obtain ⟨xs0, xsz0, xs1, xsz1, xs2, xsz2, xs3, xsz3, xs4, xsz4, xs5, xsz5⟩ := xs.f6
      obtain ⟨xd0, xdz0, xd1, xdz1, xd2, xdz2, xd3, xdz3, xd4, xdz4, xd5, xdz5⟩ := xd.f6
      go_wp2_with fail
      clear xs0 xsz0 xs1 xsz1 xs2 xsz2 xs3 xsz3 xs4 xsz4 xs5 xsz5 xd0 xdz0 xd1 xdz1 xd2 xdz2 xd3 xdz3 xd4 xdz4 xd5 xdz5
      generalize (V9.alloc (.cells #[.int .i64 s.mode, .bool s.armed, .bool s.home, .int .i64 s.lat, .int .i64 s.lon, .int .i64 y] 23)) = V10 at *
      replace hB := hB.drew
      replace xs := xs.drew
      replace xd := xd.drew
      refine wp_region_held_drew (S := fun w' => w'.cell? ⟨W.heap.size, 0, none⟩ = some (.int .i64 s.mode) ∧ w'.cell? ⟨W.heap.size, 1, none⟩ = some (.bool s.armed) ∧ w'.cell? ⟨W.heap.size, 2, none⟩ = some (.bool s.home) ∧ w'.cell? ⟨W.heap.size, 3, none⟩ = some (.int .i64 s.lat) ∧ w'.cell? ⟨W.heap.size, 4, none⟩ = some (.int .i64 s.lon) ∧ w'.cell? ⟨W.heap.size, 5, none⟩ = some (.int .i64 s.iso) ∧ w'.cell? ⟨V9.heap.size, 0, none⟩ = some (.int .i64 s.mode) ∧ w'.cell? ⟨V9.heap.size, 1, none⟩ = some (.bool s.armed) ∧ w'.cell? ⟨V9.heap.size, 2, none⟩ = some (.bool s.home) ∧ w'.cell? ⟨V9.heap.size, 3, none⟩ = some (.int .i64 s.lat) ∧ w'.cell? ⟨V9.heap.size, 4, none⟩ = some (.int .i64 s.lon) ∧ w'.cell? ⟨V9.heap.size, 5, none⟩ = some (.int .i64 y)) (by kernel_rfl) ?_ (fun hHeld => ?_)
      · exact ⟨xs.cell 0 rfl, xs.cell 1 rfl, xs.cell 2 rfl, xs.cell 3 rfl, xs.cell 4 rfl, xs.cell 5 rfl, xd.cell 0 rfl, xd.cell 1 rfl, xd.cell 2 rfl, xd.cell 3 rfl, xd.cell 4 rfl, xd.cell 5 rfl⟩
      generalize V10.drew = V11 at *
      refine tk 0 (v := ?_) rfl (Or.inl ⟨by rfl, ?_⟩) ?_; rotate_left
      · intro w hSw; (try dsimp only at hSw); go_simp; try with_reducible rfl
      try simp only [Act.put, l1, l2, l3, l4, l5, l6]
      refine tk 1 (v := ?_) rfl (Or.inl ⟨by rfl, ?_⟩) ?_; rotate_left
      · intro w hSw; (try dsimp only at hSw); go_simp; try with_reducible rfl
      try simp only [Act.put, l1, l2, l3, l4, l5, l6]
      refine tk 2 (v := ?_) rfl (Or.inl ⟨by rfl, ?_⟩) ?_; rotate_left
      · intro w hSw; (try dsimp only at hSw); go_simp; try with_reducible rfl
      try simp only [Act.put, l1, l2, l3, l4, l5, l6]
      refine tk 3 (v := ?_) rfl (Or.inl ⟨by rfl, ?_⟩) ?_; rotate_left
      · intro w hSw; (try dsimp only at hSw); go_simp; try with_reducible rfl
      try simp only [Act.put, l1, l2, l3, l4, l5, l6]
      refine tk 4 (v := ?_) rfl (Or.inl ⟨by rfl, ?_⟩) ?_; rotate_left
      · intro w hSw; (try dsimp only at hSw); go_simp; try with_reducible rfl
      try simp only [Act.put, l1, l2, l3, l4, l5, l6]
      refine tk 5 (v := ?_) rfl (Or.inl ⟨by rfl, ?_⟩) ?_; rotate_left
      · intro w hSw; (try dsimp only at hSw); go_simp; try with_reducible rfl
      try simp only [Act.put, l1, l2, l3, l4, l5, l6]
      refine tk 6 (v := ?_) rfl (Or.inl ⟨by rfl, ?_⟩) ?_; rotate_left
      · intro w hSw; (try dsimp only at hSw); go_simp; try with_reducible rfl
      try simp only [Act.put, l1, l2, l3, l4, l5, l6]
      refine tk 7 (v := ?_) rfl (Or.inl ⟨by rfl, ?_⟩) ?_; rotate_left
      · intro w hSw; (try dsimp only at hSw); go_simp; try with_reducible rfl
      try simp only [Act.put, l1, l2, l3, l4, l5, l6]
      refine tk 8 (v := ?_) rfl (Or.inl ⟨by rfl, ?_⟩) ?_; rotate_left
      · intro w hSw; (try dsimp only at hSw); go_simp; try with_reducible rfl
      try simp only [Act.put, l1, l2, l3, l4, l5, l6]
      refine tk 9 (v := ?_) rfl (Or.inl ⟨by rfl, ?_⟩) ?_; rotate_left
      · intro w hSw; (try dsimp only at hSw); go_simp; try with_reducible rfl
      try simp only [Act.put, l1, l2, l3, l4, l5, l6]
      refine tk 10 (v := ?_) rfl (Or.inl ⟨by rfl, ?_⟩) ?_; rotate_left
      · intro w hSw; (try dsimp only at hSw); go_simp; try with_reducible rfl
      try simp only [Act.put, l1, l2, l3, l4, l5, l6]
      refine tk 11 (v := ?_) rfl (Or.inl ⟨by rfl, ?_⟩) ?_; rotate_left
      · intro w hSw; (try dsimp only at hSw); go_simp; try with_reducible rfl
      try simp only [Act.put, l1, l2, l3, l4, l5, l6]
      refine tk 12 (v := ?_) rfl (Or.inl ⟨by rfl, ?_⟩) ?_; rotate_left
      · intro w hSw; (try dsimp only at hSw); go_simp; try with_reducible rfl
      try simp only [Act.put, l1, l2, l3, l4, l5, l6]
      refine tk 13 (v := ?_) rfl (Or.inl ⟨by rfl, ?_⟩) ?_; rotate_left
      · intro w hSw; (try dsimp only at hSw); go_simp; try with_reducible rfl
      try simp only [Act.put, l1, l2, l3, l4, l5, l6]
      refine tk 14 (v := ?_) rfl (Or.inl ⟨by rfl, ?_⟩) ?_; rotate_left
      · intro w hSw; (try dsimp only at hSw); go_simp; try with_reducible rfl
      try simp only [Act.put, l1, l2, l3, l4, l5, l6]
      refine tk 15 (v := ?_) rfl (Or.inl ⟨by rfl, ?_⟩) ?_; rotate_left
      · intro w hSw; (try dsimp only at hSw); go_simp; try with_reducible rfl
      try simp only [Act.put, l1, l2, l3, l4, l5, l6]
      refine tk 16 (v := ?_) rfl (Or.inl ⟨by rfl, ?_⟩) ?_; rotate_left
      · intro w hSw; (try dsimp only at hSw); go_simp; try with_reducible rfl
      try simp only [Act.put, l1, l2, l3, l4, l5, l6]
      refine tk 17 (v := ?_) rfl (Or.inl ⟨by rfl, ?_⟩) ?_; rotate_left
      · intro w hSw; (try dsimp only at hSw); go_simp; try with_reducible rfl
      try simp only [Act.put, l1, l2, l3, l4, l5, l6]
      refine tk 18 (v := ?_) rfl (Or.inl ⟨by rfl, ?_⟩) ?_; rotate_left
      · intro w hSw; (try dsimp only at hSw); go_simp; try with_reducible rfl
      try simp only [Act.put, l1, l2, l3, l4, l5, l6]
      refine tk 19 (v := ?_) rfl (Or.inl ⟨by rfl, ?_⟩) ?_; rotate_left
      · intro w hSw; (try dsimp only at hSw); go_simp; try with_reducible rfl
      try simp only [Act.put, l1, l2, l3, l4, l5, l6]
      refine tk 20 (v := ?_) rfl (Or.inl ⟨by rfl, ?_⟩) ?_; rotate_left
      · intro w hSw; (try dsimp only at hSw); go_simp; try with_reducible rfl
      try simp only [Act.put, l1, l2, l3, l4, l5, l6]
      refine tk 21 (v := ?_) rfl (Or.inl ⟨by rfl, ?_⟩) ?_; rotate_left
      · intro w hSw; (try dsimp only at hSw); go_simp; try with_reducible rfl
      try simp only [Act.put, l1, l2, l3, l4, l5, l6]
      refine tk 22 (v := ?_) rfl (Or.inl ⟨by rfl, ?_⟩) ?_; rotate_left
      · intro w hSw; (try dsimp only at hSw); go_simp; try with_reducible rfl
      try simp only [Act.put, l1, l2, l3, l4, l5, l6]
      refine tk 23 (v := ?_) rfl (Or.inl ⟨by rfl, ?_⟩) ?_; rotate_left
      · intro w hSw; (try dsimp only at hSw); go_simp; try with_reducible rfl
      try simp only [Act.put, l1, l2, l3, l4, l5, l6]
      refine tk 24 (v := ?_) rfl (Or.inl ⟨by rfl, ?_⟩) ?_; rotate_left
      · intro w hSw; (try dsimp only at hSw); go_simp; try with_reducible rfl
      try simp only [Act.put, l1, l2, l3, l4, l5, l6]
      refine tk 25 (v := ?_) rfl (Or.inl ⟨by rfl, ?_⟩) ?_; rotate_left
      · intro w hSw; (try dsimp only at hSw); go_simp; try with_reducible rfl
      try simp only [Act.put, l1, l2, l3, l4, l5, l6]
      refine tk 26 (v := ?_) rfl (Or.inl ⟨by rfl, ?_⟩) ?_; rotate_left
      · intro w hSw; (try dsimp only at hSw); go_simp; try with_reducible rfl
      try simp only [Act.put, l1, l2, l3, l4, l5, l6]
      refine tk 27 (v := ?_) rfl (Or.inl ⟨by rfl, ?_⟩) ?_; rotate_left
      · intro w hSw; (try dsimp only at hSw); go_simp; try with_reducible rfl
      try simp only [Act.put, l1, l2, l3, l4, l5, l6]
      refine tk 28 (v := ?_) rfl (Or.inl ⟨by rfl, ?_⟩) ?_; rotate_left
      · intro w hSw; (try dsimp only at hSw); go_simp; try with_reducible rfl
      try simp only [Act.put, l1, l2, l3, l4, l5, l6]
      refine tk 29 (v := ?_) rfl (Or.inl ⟨by rfl, ?_⟩) ?_; rotate_left
      · intro w hSw; (try dsimp only at hSw); go_simp; try with_reducible rfl
      try simp only [Act.put, l1, l2, l3, l4, l5, l6]
      refine wpAnyH_done (by kernel_rfl) ?_ _
      clear hHeld
      obtain ⟨xs0, xsz0, xs1, xsz1, xs2, xsz2, xs3, xsz3, xs4, xsz4, xs5, xsz5⟩ := xs.f6
      obtain ⟨xd0, xdz0, xd1, xdz1, xd2, xdz2, xd3, xdz3, xd4, xdz4, xd5, xdz5⟩ := xd.f6
      go_wp2
      go_ret
      exact ⟨rfl, hB⟩

end Go.Proofs.Ytdfacpppmfoiiaa

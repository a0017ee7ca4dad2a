/- A record whose mark is killed is not good; nor is it, whichever of its bytes become blank (RecordKilled); no condition. -/
import Derived.Test.YtoemjfjmpmngeacRecLaw
import Derived.Deep.RegionHeld3
import Derived.WalkLawsBesides
import Derived.WalkSpells
import Derived.IntWalk
import Derived.Lib.Hide
import Derived.Test.YtoemjfjmpmngeacBox
import Derived.Test.YtoemjfjmpmngeacBytes
import Derived.ProofKit
import Derived.OpenShut
import Derived.ChangeMaps5
import Derived.Test.YtoemjfjmpmngeacInts
namespace Go.Proofs.Ytoemjfjmpmngeac.RecordKilled
open Go.ChangeShapes Go.WideShapes Go.ChangeAt Go.RowKit Go.ChangeMaps
set_option linter.unusedVariables false
set_option linter.unusedSimpArgs false

set_option maxRecDepth 100000 in
set_option maxHeartbeats 16000000 in
theorem walk (r : Rec) (w : BitVec 32) (W : World) (hr : r.ok) :
    Calls Try.prog 13 #[.agg #[.int .i64 r.kind, .int .u64 (r.seq : Int), .int .u64 (r.data : Int)], .int .u32 (w.toNat : Int)] W fun e W' => e = .returned (.bool true) ∧ Below W.heap.size W W' := by
  have HB := Lib.hid (fun (W : World) => own07Body r W hr)
  have hz : (bs (bodyL r)).size = 22 := by rw [bs_size, bodyL_length]
  have h22 : gd (bl (bs (bodyL r) ++ ⟨#[0, 0]⟩)) 22 0 = 0 := by rw [bl_append, bl_bs, gd, List.getElem?_append_right (by rw [bodyL_length]; exact Nat.le_refl _), bodyL_length]; rfl
  have hEs : (bl (bs (bodyL r) ++ ⟨#[0, 0]⟩)).length = 24 := by rw [bl_length, ByteArray.size_append, hz]; rfl
  have o1 : ¬ 9223372036854775807 < (bs (bodyL r)).size + 2 := by omega
  generalize bs (bodyL r) = bd at *
  replace h22 := Lib.hid h22
  replace hEs := Lib.hid hEs
  have hB : Below W.heap.size W (W.alloc (.cells #[.int .i64 r.kind, .int .u64 (r.seq : Int), .int .u64 (r.data : Int)] 36)) := ((Below.refl _ _).alloc (Nat.le_refl _) _)
  have xr := (Box.new 36 W [.int .i64 r.kind, .int .u64 (r.seq : Int), .int .u64 (r.data : Int)])
  go_enter Try.func13, Try.ntmps13
  go_wp2_with fail
  refine (HB.out _).mono ?_
  rintro e V1 ⟨rfl, hk⟩
  replace hB := below_seq hB hk
  replace xr := xr.seq hk
  clear hk
  have xr0 := xr.cell 0 rfl
  have xrz0 := xr.frozen 0
  have xr1 := xr.cell 1 rfl
  have xrz1 := xr.frozen 1
  have xr2 := xr.cell 2 rfl
  have xrz2 := xr.frozen 2
  have hcv := run_bytes_of_string (P := Try.prog) V1 9 52 5 (bd ++ ⟨#[0, 0]⟩) Try.underlying9 Try.underlying52 Try.underlying5
  go_wp2
  clear xr0 xrz0 xr1 xrz1 xr2 xrz2
  have bT := BRow.ofString V1 (bd ++ ⟨#[0, 0]⟩) 5 (grownCap V1 24 0 5) (bytesRow (bd ++ ⟨#[0, 0]⟩) (grownCap V1 24 0 5)).size (bytesRow_size _ _)
  have hg0 : W.heap.size ≤ V1.heap.size := hB.size
  have lt_xr : W.heap.size < V1.heap.size := xr.lt
  replace xr := xr.alloc (.cells (bytesRow (bd ++ ⟨#[0, 0]⟩) (grownCap V1 24 0 5)) 5 ((bytesRow (bd ++ ⟨#[0, 0]⟩) (grownCap V1 24 0 5)).size, (bytesRow (bd ++ ⟨#[0, 0]⟩) (grownCap V1 24 0 5)).size + 1))
  replace hB := hB.alloc hB.size (.cells (bytesRow (bd ++ ⟨#[0, 0]⟩) (grownCap V1 24 0 5)) 5 ((bytesRow (bd ++ ⟨#[0, 0]⟩) (grownCap V1 24 0 5)).size, (bytesRow (bd ++ ⟨#[0, 0]⟩) (grownCap V1 24 0 5)).size + 1))
  replace bT := bT.drew
  replace hB := hB.drew
  replace xr := xr.drew
  clear hcv
  generalize (V1.alloc (.cells (bytesRow (bd ++ ⟨#[0, 0]⟩) (grownCap V1 24 0 5)) 5 ((bytesRow (bd ++ ⟨#[0, 0]⟩) (grownCap V1 24 0 5)).size, (bytesRow (bd ++ ⟨#[0, 0]⟩) (grownCap V1 24 0 5)).size + 1))).drew = V2 at *
  generalize grownCap V1 24 0 5 = cap
  generalize V1.heap.size = g at *
  generalize (bd ++ ⟨#[0, 0]⟩) = E at *
  go_loopw [6] (fun i w => ∃ (k : Nat) (l : List UInt8), k ≤ 24 ∧ i = .int .i64 k ∧ l.length = 24 ∧ (gd l 22 0 = 0 ∨ gd l 22 0 = 255) ∧ BRow w g l ∧ Below W.heap.size W w) (fun i _ => 24 - (intOf i).toNat)
  case atStart => exact ⟨0, bl E, by omega, rfl, hEs.out, .inl h22.out, bT, hB⟩
  case round =>
    clear xr hB bT h22 hEs
    obtain ⟨k, l, hk, rfl, hl, h22, bT, hB⟩ := hrel
    replace h22 := Lib.hid h22
    by_cases hlt : k < 24
    · have c1 := bT.cell (j := k) (by omega)
      have f1 := bT.frozen (j := k) (by omega)
      have g1 : (0 : Int) ≤ (k : Int) := by omega
      have g2 : (k : Int) < 24 := by omega
      have bT2 : BRow (wr.setCell ⟨g, k, none⟩ (.int .u8 255)) g (l.set k 255) := bT.set (k := k) (by omega) 255
      have h22' := Lib.hid (show gd (l.set k 255) 22 0 = 0 ∨ gd (l.set k 255) 22 0 = 255 from by rw [gd_set _ _ _ _ _ (by omega)]; split; exact .inr rfl; exact h22.out)
      replace hl := Lib.hid hl
      go_wp2
      · go_roundw
        case rel => exact ⟨k + 1, l.set k 255, by omega, by go_num, by rw [List.length_set]; exact hl.out, h22'.out, bT2, hB.setCell hg0 _⟩
        case measure => simp [intOf]; omega
      · go_roundw
        case rel => exact ⟨k + 1, l, by omega, by go_num, hl.out, h22.out, bT, hB⟩
        case measure => simp [intOf]; omega
    · obtain rfl : k = 24 := by omega
      have hcv := bT.string (P := Try.prog) (src := 52) (dst := 9) Try.underlying52 Try.underlying5 Try.underlying9 cap
      rw [hl] at hcv
      have TG := Lib.hid (fun (W : World) => (show Calls Try.prog 33 #[.string (bs l)] W fun e W' => e = .returned (.bool false) ∧ Below W.heap.size W W' from by
        have h := own07Good (bs l) W (by rw [bs_size, hl]; decide)
        have hd : decE l ≠ 0 := fun h => by have := dec_at22 h; rcases h22.out with q | q <;> rw [q] at this <;> exact absurd this (by decide)
        rw [bl_bs, beq_eq_false_iff_ne.2 hd] at h
        exact h))
      clear bT hl h22
      go_wp2_with fail
      refine (TG.out _).mono ?_
      rintro e V3 ⟨rfl, hk⟩
      replace hB := below_seq hB hk
      clear hk
      go_wp2_with fail
      refine (shown07 _).mono ?_
      rintro e V4 ⟨rfl, hk⟩
      replace hB := below_seq hB hk
      clear hk
      go_wp2
      go_ret
      exact ⟨rfl, hB⟩

theorem own : ownKnob Try.prog.godebug = none := by kernel_rfl

set_option maxRecDepth 100000 in
theorem lifted (os : Os) (started : os.Started) (H : Type) (enc : TypeId × Value → H) :
    ReturnsInHanded {} Try.checked os 13 .any (Rows.recordKilledSpec.pre6 enc Try.prog Try.f13 Rows.recordKilledRow.domain false) (Rows.recordKilledSpec.post enc Try.prog Try.f13 false true false false) := by
  refine returnsInHanded_of_change (C := Try.checked) own started (by kernel_rfl) Try.func13
    (ChangeSpec.witness6 (enc := enc) (C := Try.checked) false ⟨#[], #[.agg #[.int .i64 0, .int .u64 0, .int .u64 0], .int .u32 0], []⟩ 8 (by kernel_rfl) (by kernel_rfl) (by kernel_rfl) (by kernel_rfl)) ?_
  intro W base args ds gs before hval hW _ _
  have hW' := hW
  obtain ⟨p, q, hA0, hV, rfl, hfz, hnd⟩ := hW
  have hA : DataW.TrodAll enc Try.prog W 0 (fun _ => true) true Try.f13.params.toList args.toList ds p := hA0
  rw [Try.params13] at hA hval
  obtain ⟨v0, vs0, d0, ds0, p0, q0, hargs, rfl, rfl, h0, r0⟩ := trodAll_cons hA
  obtain ⟨v1, vs1, d1, ds1, p1, q1, rfl, rfl, rfl, h1, r1⟩ := trodAll_cons r0
  obtain ⟨rfl, rfl, rfl⟩ := trodAll_nil r1
  obtain rfl : args = #[v0, v1] := by cases args; simp_all
  obtain ⟨rfl, rfl⟩ := trodVars_none hV
  have k0 := h0
  obtain ⟨s0, rfl, hs0⟩ := open_rec (hval 0 36 v0 rfl rfl) h0
  obtain ⟨a1, rfl, rfl, rfl, w1⟩ := open_int Try.underlying51 (hval 1 51 v1 rfl rfl) h1
  obtain ⟨c1, rfl⟩ := int_u32 w1
  clear hA0
  simp only [List.append_nil] at hW'
  refine (walk s0 c1 W hs0).mono fun e W' ⟨he, hB⟩ => ?_
  subst he
  exact ⟨_, rfl, ⟨_, _, _, [], _, [], hW', trodAll_cons_mk (shut_bool Try.underlying4 _) trodAll_mk0, (trodAll_cons_mk (Below.trod Try.laidOut (by kernel_rfl) (of_decide_eq_true (by kernel_rfl)) k0 hB (fun x hx => by simpa using hW'.lt x (by simp [hx]))) (trodAll_cons_mk (shut_int Try.underlying51 w1) trodAll_mk0)), rfl, hB.frame _, fun h => by cases h⟩⟩

theorem holds : Rows.RecordKilledSaid :=
  OpenClaim.holds_of_wide 13 Try.f13 rfl rfl rfl rfl rfl rfl rfl ⟨rfl, rfl, rfl, rfl, rfl⟩ rfl rfl rfl rfl rfl (by kernel_rfl) Try.func13 (by kernel_rfl)
    (of_decide_eq_true (by kernel_rfl)) (by unfold Func.isWrapper; first | (rw [if_pos (by decide +kernel)]; kernel_rfl) | (rw [if_neg (by decide +kernel)]; exact ⟨rfl, rfl⟩))
    (fun os started H enc _ => lifted os started H enc)
end Go.Proofs.Ytoemjfjmpmngeac.RecordKilled

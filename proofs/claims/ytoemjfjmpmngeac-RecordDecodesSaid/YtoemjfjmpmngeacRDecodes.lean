/- The record that any bytes are, or the error, is the document's (RecordDecodes); no condition. -/
import Derived.Test.YtoemjfjmpmngeacRecLaw
import Derived.Deep.RegionHeld3
import Derived.WalkLawsBesides
import Derived.WalkSpells
import Derived.IntWalk
import Derived.Lib.Hide
import Derived.Test.YtoemjfjmpmngeacBox
import Derived.Test.YtoemjfjmpmngeacRecDecode
import Derived.ProofKit
import Derived.OpenShut
import Derived.ChangeMaps5
import Derived.Test.YtoemjfjmpmngeacInts
namespace Go.Proofs.Ytoemjfjmpmngeac.RecordDecodes
open Go.ChangeShapes Go.WideShapes Go.ChangeAt Go.RowKit Go.ChangeMaps
set_option linter.unusedVariables false
set_option linter.unusedSimpArgs false

set_option maxRecDepth 100000 in
set_option maxHeartbeats 8000000 in
theorem walk (s : ByteArray) (W : World) (hs : s.size ≤ maxLen) :
    Calls Try.prog 10 #[.string s] W fun e W' => e = .returned (.bool true) ∧ Below W.heap.size W W' := by
  by_cases hbig : 100 < s.size
  · have hb1 : (s.size : Int) > 100 := by omega
    have hB : Below W.heap.size W W := Below.refl _ _
    go_enter Try.func10, Try.ntmps10
    go_wp2_with fail
    refine (shown07 _).mono ?_
    rintro e V1 ⟨rfl, hk⟩
    replace hB := below_seq hB hk
    clear hk
    go_wp2
    go_ret
    exact ⟨rfl, hB⟩
  · have hb1 : ¬ (s.size : Int) > 100 := by omega
    have TD := Lib.hid (fun (V : World) => own07Decode s V (by omega))
    have TX := Lib.hid (fun (V : World) => ref07Decode s V (by omega))
    have TG := Lib.hid (fun (V : World) => own07Good s V (by omega))
    have TH := Lib.hid (fun (V : World) => ref07Good s V (by omega))
    generalize decE (bl s) = E at *
    generalize decR (bl s) = r at *
    have hB : Below W.heap.size W W := Below.refl _ _
    go_enter Try.func10, Try.ntmps10
    go_wp2_with fail
    refine (shown07 _).mono ?_
    rintro e V1 ⟨rfl, hk⟩
    replace hB := below_seq hB hk
    clear hk
    go_wp2_with fail
    refine (TD.out _).mono ?_
    rintro e V2 ⟨rfl, hk⟩
    replace hB := below_seq hB hk
    clear hk
    have xd := Box.new 36 V2 [.int .i64 r.kind, .int .u64 (r.seq : Int), .int .u64 (r.data : Int)]
    have le_xd : W.heap.size ≤ V2.heap.size := hB.size
    replace hB := hB.alloc hB.size (.cells #[.int .i64 r.kind, .int .u64 (r.seq : Int), .int .u64 (r.data : Int)] 36)
    have xd0 := xd.cell 0 rfl
    have xdz0 := xd.frozen 0
    have xd1 := xd.cell 1 rfl
    have xdz1 := xd.frozen 1
    have xd2 := xd.cell 2 rfl
    have xdz2 := xd.frozen 2
    go_wp2_with fail
    refine (TX.out _).mono ?_
    rintro e V3 ⟨rfl, hk⟩
    clear xd0 xdz0 xd1 xdz1 xd2 xdz2
    replace hB := below_seq hB hk
    replace xd := xd.seq hk
    clear hk
    have xd0 := xd.cell 0 rfl
    have xdz0 := xd.frozen 0
    have xd1 := xd.cell 1 rfl
    have xdz1 := xd.frozen 1
    have xd2 := xd.cell 2 rfl
    have xdz2 := xd.frozen 2
    clear xd0 xdz0 xd1 xdz1 xd2 xdz2
    have xe := Box.new 37 V3 [.int .i64 r.kind, .int .u64 (r.seq : Int), .int .u64 (r.data : Int)]
    have ne_xe_xd : V3.heap.size ≠ V2.heap.size := Nat.ne_of_gt xd.lt
    have le_xe : W.heap.size ≤ V3.heap.size := hB.size
    replace xd := xd.alloc (.cells #[.int .i64 r.kind, .int .u64 (r.seq : Int), .int .u64 (r.data : Int)] 37)
    replace hB := hB.alloc hB.size (.cells #[.int .i64 r.kind, .int .u64 (r.seq : Int), .int .u64 (r.data : Int)] 37)
    have xd0 := xd.cell 0 rfl
    have xdz0 := xd.frozen 0
    have xd1 := xd.cell 1 rfl
    have xdz1 := xd.frozen 1
    have xd2 := xd.cell 2 rfl
    have xdz2 := xd.frozen 2
    have xe0 := xe.cell 0 rfl
    have xez0 := xe.frozen 0
    have xe1 := xe.cell 1 rfl
    have xez1 := xe.frozen 1
    have xe2 := xe.cell 2 rfl
    have xez2 := xe.frozen 2
    go_wp2_with fail
    refine (TG.out _).mono ?_
    rintro e V4 ⟨rfl, hk⟩
    clear xd0 xdz0 xd1 xdz1 xd2 xdz2 xe0 xez0 xe1 xez1 xe2 xez2
    replace hB := below_seq hB hk
    replace xd := xd.seq hk
    replace xe := xe.seq hk
    clear hk
    have xd0 := xd.cell 0 rfl
    have xdz0 := xd.frozen 0
    have xd1 := xd.cell 1 rfl
    have xdz1 := xd.frozen 1
    have xd2 := xd.cell 2 rfl
    have xdz2 := xd.frozen 2
    have xe0 := xe.cell 0 rfl
    have xez0 := xe.frozen 0
    have xe1 := xe.cell 1 rfl
    have xez1 := xe.frozen 1
    have xe2 := xe.cell 2 rfl
    have xez2 := xe.frozen 2
    go_wp2_with fail
    refine (TH.out _).mono ?_
    rintro e V5 ⟨rfl, hk⟩
    clear xd0 xdz0 xd1 xdz1 xd2 xdz2 xe0 xez0 xe1 xez1 xe2 xez2
    replace hB := below_seq hB hk
    replace xd := xd.seq hk
    replace xe := xe.seq hk
    clear hk
    have xd0 := xd.cell 0 rfl
    have xdz0 := xd.frozen 0
    have xd1 := xd.cell 1 rfl
    have xdz1 := xd.frozen 1
    have xd2 := xd.cell 2 rfl
    have xdz2 := xd.frozen 2
    have xe0 := xe.cell 0 rfl
    have xez0 := xe.frozen 0
    have xe1 := xe.cell 1 rfl
    have xez1 := xe.frozen 1
    have xe2 := xe.cell 2 rfl
    have xez2 := xe.frozen 2
    go_wp2
    go_ret
    exact ⟨rfl, hB⟩

theorem own : ownKnob Try.prog.godebug = none := by kernel_rfl

set_option maxRecDepth 100000 in
theorem lifted (os : Os) (started : os.Started) (H : Type) (enc : TypeId × Value → H) :
    ReturnsInHanded {} Try.checked os 10 .any (Rows.recordDecodesSpec.pre6 enc Try.prog Try.f10 Rows.recordDecodesRow.domain false) (Rows.recordDecodesSpec.post enc Try.prog Try.f10 false true false false) := by
  refine returnsInHanded_of_change (C := Try.checked) own started (by kernel_rfl) Try.func10
    (ChangeSpec.witness6 (enc := enc) (C := Try.checked) false ⟨#[], #[.string ⟨#[]⟩], []⟩ 8 (by kernel_rfl) (by kernel_rfl) (by kernel_rfl) (by kernel_rfl)) ?_
  intro W base args ds gs before hval hW _ _
  have hW' := hW
  obtain ⟨p, q, hA0, hV, rfl, hfz, hnd⟩ := hW
  have hA : DataW.TrodAll enc Try.prog W 0 (fun _ => true) true Try.f10.params.toList args.toList ds p := hA0
  rw [Try.params10] at hA hval
  obtain ⟨v0, vs0, d0, ds0, p0, q0, hargs, rfl, rfl, h0, r0⟩ := trodAll_cons hA
  obtain ⟨rfl, rfl, rfl⟩ := trodAll_nil r0
  obtain rfl : args = #[v0] := by cases args; simp_all
  obtain ⟨rfl, rfl⟩ := trodVars_none hV
  obtain ⟨s0, rfl, rfl, rfl, hs0⟩ := open_string Try.underlying9 (hval 0 9 v0 rfl rfl) h0
  clear hA0
  simp only [List.append_nil] at hW'
  refine (walk s0 W hs0).mono fun e W' ⟨he, hB⟩ => ?_
  subst he
  exact ⟨_, rfl, ⟨_, _, _, [], _, [], hW', trodAll_cons_mk (shut_bool Try.underlying4 _) trodAll_mk0, (trodAll_cons_mk (shut_string Try.underlying9 hs0) trodAll_mk0), rfl, hB.frame _, fun h => by cases h⟩⟩

theorem holds : Rows.RecordDecodesSaid :=
  OpenClaim.holds_of_wide 10 Try.f10 rfl rfl rfl rfl rfl rfl rfl ⟨rfl, rfl, rfl, rfl, rfl⟩ rfl rfl rfl rfl rfl (by kernel_rfl) Try.func10 (by kernel_rfl)
    (of_decide_eq_true (by kernel_rfl)) (by unfold Func.isWrapper; first | (rw [if_pos (by decide +kernel)]; kernel_rfl) | (rw [if_neg (by decide +kernel)]; exact ⟨rfl, rfl⟩))
    (fun os started H enc _ => lifted os started H enc)
end Go.Proofs.Ytoemjfjmpmngeac.RecordDecodes

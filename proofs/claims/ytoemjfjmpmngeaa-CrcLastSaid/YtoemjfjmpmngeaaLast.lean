/- Of texts that differ in their last four bytes alone each one has another sum (CrcLast); no condition. -/
import Derived.Test.YtoemjfjmpmngeaaCrcLaw
import Derived.ProofKit
import Derived.OpenShut
import Derived.ChangeMaps5
import Derived.Test.YtoemjfjmpmngeaaInts
namespace Go.Proofs.Ytoemjfjmpmngeaa.CrcLast
open Go.ChangeShapes Go.WideShapes Go.ChangeAt Go.RowKit Go.ChangeMaps
set_option linter.unusedVariables false

/-- A number's four bytes, the highest first. -/
def x4 (x : BitVec 32) : List UInt8 := [UInt8.ofNat (x.toNat / 16777216), UInt8.ofNat (x.toNat / 65536 % 256), UInt8.ofNat (x.toNat / 256 % 256), UInt8.ofNat (x.toNat % 256)]
theorem x4_cells (x : BitVec 32) : #[.int .u8 ((x.toNat : Int) / 16777216), .int .u8 ((x.toNat : Int) / 65536 % 256), .int .u8 ((x.toNat : Int) / 256 % 256), .int .u8 ((x.toNat : Int) % 256)] = ((x4 x).map b8v).toArray := by
  have hx := x.isLt
  have h1 : ((UInt8.ofNat (x.toNat / 16777216)).toNat : Int) = (x.toNat : Int) / 16777216 := by rw [UInt8.toNat_ofNat']; omega
  have h2 : ((UInt8.ofNat (x.toNat / 65536 % 256)).toNat : Int) = (x.toNat : Int) / 65536 % 256 := by rw [UInt8.toNat_ofNat']; omega
  have h3 : ((UInt8.ofNat (x.toNat / 256 % 256)).toNat : Int) = (x.toNat : Int) / 256 % 256 := by rw [UInt8.toNat_ofNat']; omega
  have h4 : ((UInt8.ofNat (x.toNat % 256)).toNat : Int) = (x.toNat : Int) % 256 := by rw [UInt8.toNat_ofNat']; omega
  simp only [x4, List.map_cons, List.map_nil, b8v, h1, h2, h3, h4]
theorem x4_inj {x y : BitVec 32} : x4 x = x4 y ↔ (x.toNat : Int) = (y.toNat : Int) := by
  constructor
  · intro h
    simp only [x4, List.cons.injEq, and_true] at h
    obtain ⟨h1, h2, h3, h4⟩ := h
    have hx := x.isLt; have hy := y.isLt
    have h1 := congrArg UInt8.toNat h1; have h2 := congrArg UInt8.toNat h2; have h3 := congrArg UInt8.toNat h3; have h4 := congrArg UInt8.toNat h4
    rw [UInt8.toNat_ofNat', UInt8.toNat_ofNat'] at h1 h2 h3 h4
    omega
  · intro h; rw [BitVec.eq_of_toNat_eq (by omega : x.toNat = y.toNat)]

set_option maxRecDepth 100000 in
set_option maxHeartbeats 4000000 in
theorem walk (s : ByteArray) (x : BitVec 32) (y : BitVec 32) (W : World) (hs : s.size ≤ maxLen) :
    Calls Try.prog 12 #[.string s, .int .u32 (x.toNat : Int), .int .u32 (y.toNat : Int)] W fun e W' => e = .returned (.bool true) ∧ Below W.heap.size W W' := by
  unfold maxLen at hs
  by_cases hl : 300 < s.size
  · go_enter Try.func12, Try.ntmps12
    go_wp2_with fail
    refine (shown2 _).mono ?_
    rintro e W2 ⟨rfl, h2⟩
    go_wp2
    go_ret
    exact ⟨rfl, h2⟩
  · have hl2 : s.size ≤ 300 := by omega
    have hx := x.isLt
    have hy := y.isLt
    have hz1 : (bs (x4 x)).size ≤ 4 := by rw [bs_size]; exact Nat.le_refl _
    have hz2 : (bs (x4 y)).size ≤ 4 := by rw [bs_size]; exact Nat.le_refl _
    have hF : (sumT (s ++ bs (x4 x)) == sumT (s ++ bs (x4 y))) = ((x.toNat : Int) == (y.toNat : Int)) :=
      beq_of_iff ((sumT_burst (bl s) (x4 x) (x4 y) [] _ _ (by rw [bl_append, bl_bs, List.append_nil]) (by rw [bl_append, bl_bs, List.append_nil]) (Nat.le_refl 4) rfl).trans x4_inj)
    have HF := Lib.hid hF
    clear hF
    have hc := fun w : World => lit_string (P := Try.prog) (src := 29) (dst := 9) Try.underlying29 Try.underlying5 Try.underlying9 w (x4 x) 4 _ (x4_cells x)
    have hd := fun w : World => lit_string (P := Try.prog) (src := 29) (dst := 9) Try.underlying29 Try.underlying5 Try.underlying9 w (x4 y) 4 _ (x4_cells y)
    have Hc := Lib.hid hc
    have Hd := Lib.hid hd
    clear hc hd
    go_enter Try.func12, Try.ntmps12
    go_wp2_with fail
    refine (shown2 _).mono ?_
    rintro e W2 ⟨rfl, hB⟩
    have hcx : (convert 29 9 (.slice (some ⟨W2.heap.size, 0, none⟩) 4 4)).run Try.prog (W2.alloc (.cells #[.int .u8 ((x.toNat : Int) / 16777216), .int .u8 ((x.toNat : Int) / 65536 % 256), .int .u8 ((x.toNat : Int) / 256 % 256), .int .u8 ((x.toNat : Int) % 256)] 5)) = .ok (.string (bs (x4 x))) (W2.alloc (.cells #[.int .u8 ((x.toNat : Int) / 16777216), .int .u8 ((x.toNat : Int) / 65536 % 256), .int .u8 ((x.toNat : Int) / 256 % 256), .int .u8 ((x.toNat : Int) % 256)] 5)) := Hc.out W2
    have hcy : (convert 29 9 (.slice (some ⟨W2.heap.size + 1, 0, none⟩) 4 4)).run Try.prog ((W2.alloc (.cells #[.int .u8 ((x.toNat : Int) / 16777216), .int .u8 ((x.toNat : Int) / 65536 % 256), .int .u8 ((x.toNat : Int) / 256 % 256), .int .u8 ((x.toNat : Int) % 256)] 5)).alloc (.cells #[.int .u8 ((y.toNat : Int) / 16777216), .int .u8 ((y.toNat : Int) / 65536 % 256), .int .u8 ((y.toNat : Int) / 256 % 256), .int .u8 ((y.toNat : Int) % 256)] 5)) = .ok (.string (bs (x4 y))) ((W2.alloc (.cells #[.int .u8 ((x.toNat : Int) / 16777216), .int .u8 ((x.toNat : Int) / 65536 % 256), .int .u8 ((x.toNat : Int) / 256 % 256), .int .u8 ((x.toNat : Int) % 256)] 5)).alloc (.cells #[.int .u8 ((y.toNat : Int) / 16777216), .int .u8 ((y.toNat : Int) / 65536 % 256), .int .u8 ((y.toNat : Int) / 256 % 256), .int .u8 ((y.toNat : Int) % 256)] 5)) := by
      have h := Hd.out (W2.alloc (.cells #[.int .u8 ((x.toNat : Int) / 16777216), .int .u8 ((x.toNat : Int) / 65536 % 256), .int .u8 ((x.toNat : Int) / 256 % 256), .int .u8 ((x.toNat : Int) % 256)] 5))
      rw [World.size_alloc] at h
      exact h
    replace hB := (hB.alloc hB.size (.cells #[.int .u8 ((x.toNat : Int) / 16777216), .int .u8 ((x.toNat : Int) / 65536 % 256), .int .u8 ((x.toNat : Int) / 256 % 256), .int .u8 ((x.toNat : Int) % 256)] 5)).alloc (by have := hB.size; simp; omega) (.cells #[.int .u8 ((y.toNat : Int) / 16777216), .int .u8 ((y.toNat : Int) / 65536 % 256), .int .u8 ((y.toNat : Int) / 256 % 256), .int .u8 ((y.toNat : Int) % 256)] 5)
    go_wp2_with fail
    clear hcx hcy
    refine (crcSum _ _ (by unfold maxLen; simp; omega)).mono ?_
    rintro e W3 ⟨rfl, h3⟩
    replace hB := below_seq hB h3
    clear h3
    go_wp2_with fail
    refine (crcSum _ _ (by unfold maxLen; simp; omega)).mono ?_
    rintro e W4 ⟨rfl, h4⟩
    replace hB := below_seq hB h4
    clear h4
    have hF := HF.out
    go_wp2
    go_ret
    exact ⟨rfl, hB⟩

theorem own : ownKnob Try.prog.godebug = none := by kernel_rfl

set_option maxRecDepth 100000 in
theorem lifted (os : Os) (started : os.Started) (H : Type) (enc : TypeId × Value → H) :
    ReturnsInHanded {} Try.checked os 12 .any (Rows.crcLastSpec.pre6 enc Try.prog Try.f12 Rows.crcLastRow.domain false) (Rows.crcLastSpec.post enc Try.prog Try.f12 false true false false) := by
  refine returnsInHanded_of_change (C := Try.checked) own started (by kernel_rfl) Try.func12
    (ChangeSpec.witness6 (enc := enc) (C := Try.checked) false ⟨#[], #[.string ⟨#[]⟩, .int .u32 0, .int .u32 0], []⟩ 8 (by kernel_rfl) (by kernel_rfl) (by kernel_rfl) (by kernel_rfl)) ?_
  intro W base args ds gs before hval hW _ _
  have hW' := hW
  obtain ⟨p, q, hA0, hV, rfl, hfz, hnd⟩ := hW
  have hA : DataW.TrodAll enc Try.prog W 0 (fun _ => true) true Try.f12.params.toList args.toList ds p := hA0
  rw [Try.params12] at hA hval
  obtain ⟨v0, vs0, d0, ds0, p0, q0, hargs, rfl, rfl, h0, r0⟩ := trodAll_cons hA
  obtain ⟨v1, vs1, d1, ds1, p1, q1, rfl, rfl, rfl, h1, r1⟩ := trodAll_cons r0
  obtain ⟨v2, vs2, d2, ds2, p2, q2, rfl, rfl, rfl, h2, r2⟩ := trodAll_cons r1
  obtain ⟨rfl, rfl, rfl⟩ := trodAll_nil r2
  obtain rfl : args = #[v0, v1, v2] := by cases args; simp_all
  obtain ⟨rfl, rfl⟩ := trodVars_none hV
  obtain ⟨s0, rfl, rfl, rfl, hs0⟩ := open_string Try.underlying9 (hval 0 9 v0 rfl rfl) h0
  obtain ⟨a1, rfl, rfl, rfl, w1⟩ := open_int Try.underlying31 (hval 1 31 v1 rfl rfl) h1
  obtain ⟨c1, rfl⟩ := int_u32 w1
  obtain ⟨a2, rfl, rfl, rfl, w2⟩ := open_int Try.underlying31 (hval 2 31 v2 rfl rfl) h2
  obtain ⟨c2, rfl⟩ := int_u32 w2
  clear hA0
  simp only [List.append_nil] at hW'
  refine (walk s0 c1 c2 W hs0).mono fun e W' ⟨he, hB⟩ => ?_
  subst he
  exact ⟨_, rfl, ⟨_, _, _, [], [], [], hW', trodAll_cons_mk (shut_bool Try.underlying4 _) trodAll_mk0, (trodAll_cons_mk (shut_string Try.underlying9 hs0) (trodAll_cons_mk (shut_int Try.underlying31 w1) (trodAll_cons_mk (shut_int Try.underlying31 w2) trodAll_mk0))), rfl, hB.frame _, fun h => by cases h⟩⟩

theorem holds : Rows.CrcLastSaid :=
  OpenClaim.holds_of_wide 12 Try.f12 rfl rfl rfl rfl rfl rfl rfl ⟨rfl, rfl, rfl, rfl, rfl⟩ rfl rfl rfl rfl rfl (by kernel_rfl) Try.func12 (by kernel_rfl)
    (of_decide_eq_true (by kernel_rfl)) (by unfold Func.isWrapper; first | (rw [if_pos (by decide +kernel)]; kernel_rfl) | (rw [if_neg (by decide +kernel)]; exact ⟨rfl, rfl⟩))
    (fun os started H enc _ => lifted os started H enc)
end Go.Proofs.Ytoemjfjmpmngeaa.CrcLast

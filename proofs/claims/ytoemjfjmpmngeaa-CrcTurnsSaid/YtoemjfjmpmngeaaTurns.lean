/- Sums of three texts of one length, put together bit by bit, are that of the three together (CrcTurns); no condition. -/
import Derived.Test.YtoemjfjmpmngeaaCrcLaw
import Derived.ProofKit
import Derived.OpenShut
import Derived.ChangeMaps5
import Derived.Test.YtoemjfjmpmngeaaInts
namespace Go.Proofs.Ytoemjfjmpmngeaa.CrcTurns
open Go.ChangeShapes Go.WideShapes Go.ChangeAt Go.RowKit Go.ChangeMaps
set_option linter.unusedVariables false
attribute [local go_sem] b8_xor
/-- The three texts' bytes together. -/
def x3 (a b c : ByteArray) (i : Nat) : UInt8 := bxor (bxor (gd (bl a) i 0) (gd (bl b) i 0)) (gd (bl c) i 0)
theorem upto_all (s : ByteArray) (n : Nat) (h : n ≤ s.size) : upto (fun i => gd (bl s) i 0) n = bl (s.extract 0 n) := by
  have he : bl (s.extract 0 n) = (bl s).take n := by
    simp [bl, ByteArray.data_extract]
  rw [he]
  apply List.ext_getElem
  · simp [upto, bl_length]; omega
  · intro i h1 h2
    have hi : i < (bl s).length := by rw [bl_length]; simp [upto] at h1; omega
    simp [upto, gd, hi]
theorem turns_eq (a b c : ByteArray) (hab : a.size ≤ b.size) (hac : a.size ≤ c.size) :
    (sumT (bs (upto (x3 a b c) a.size)) == bits .xor .u32 (bits .xor .u32 (sumT a) (sumT (b.extract 0 a.size))) (sumT (c.extract 0 a.size))) = true := by
  have h := sumW_three (fun i => gd (bl a) i 0) (fun i => gd (bl b) i 0) (fun i => gd (bl c) i 0) a.size
  rw [upto_all a a.size (Nat.le_refl _), upto_all b a.size hab, upto_all c a.size hac, extract_all] at h
  rw [beq_iff_eq]
  unfold sumT
  rw [w_xor, w_xor, bl_bs]
  unfold wx
  rw [← h]
  rfl

set_option maxRecDepth 100000 in
set_option maxHeartbeats 4000000 in
theorem walk (a : ByteArray) (b : ByteArray) (c : ByteArray) (W : World) (ha : a.size ≤ maxLen) (hb : b.size ≤ maxLen) (hc : c.size ≤ maxLen) :
    Calls Try.prog 11 #[.string a, .string b, .string c] W fun e W' => e = .returned (.bool true) ∧ Below W.heap.size W W' := by
  unfold maxLen at ha hb hc
  by_cases hl : 300 < a.size
  · go_enter Try.func11, Try.ntmps11
    go_wp2_with fail
    refine (shown2 _).mono ?_
    rintro e W2 ⟨rfl, h2⟩
    go_wp2
    go_ret
    exact ⟨rfl, h2⟩
  · have hl2 : a.size ≤ 300 := by omega
    by_cases hl3 : b.size < a.size
    · go_enter Try.func11, Try.ntmps11
      go_wp2_with fail
      refine (shown2 _).mono ?_
      rintro e W2 ⟨rfl, h2⟩
      go_wp2
      go_ret
      exact ⟨rfl, h2⟩
    · by_cases hl4 : c.size < a.size
      · go_enter Try.func11, Try.ntmps11
        go_wp2_with fail
        refine (shown2 _).mono ?_
        rintro e W2 ⟨rfl, h2⟩
        go_wp2
        go_ret
        exact ⟨rfl, h2⟩
      · have hab : a.size ≤ b.size := by omega
        have hac : a.size ≤ c.size := by omega
        obtain ⟨i0, hi, hz0, hz1, hz2⟩ := info_parts Try.info_u8
        go_enter Try.func11, Try.ntmps11
        go_wp2_with fail
        refine (shown2 _).mono ?_
        rintro e W2 ⟨rfl, hB⟩
        go_wp2
        go_loopw [8, 9] (fun v i wr => ∃ k : Nat, k ≤ a.size ∧ i = .int .i64 k ∧ wr.ownsRow W.heap.size 5 1 v k ((upto (x3 a b c) k).map b8v) ∧ Below W.heap.size W wr)
          (fun _ i _ => a.size - (intOf i).toNat)
        case atStart => exact ⟨0, Nat.zero_le _, rfl, World.ownsRow_made _ _ 0 hB.size (by simp) rfl, hB.alloc hB.size _⟩
        case round =>
          clear hB
          obtain ⟨k, hk, rfl, hown, hB⟩ := hrel
          have hsz := hB.size
          by_cases hlt : k < a.size
          · have h5 : k < b.size := by omega
            have h6 : k < c.size := by omega
            have He := Lib.hid (show b8v (x3 a b c k) = Value.int .u8 ((bxor (bxor a[k] b[k]) c[k]).toNat : Int) from by
              rw [x3, gd_in a k 0 hlt, gd_in b k 0 h5, gd_in c k 0 h6]; rfl)
            go_wp2
            go_region_law (refine step_append_own rfl _ _ 29 rfl W.heap.size 5 i0 (.int .u8 0) 1 1 Try.underlying29 hi hz0 hz1 hz2 rfl (by decide) _ _ _ rfl (hown.drew.alloc _) ⟨wr.heap.size, 0, none⟩ 1 1 [b8v (x3 a b c k)] rfl rfl (by rw [He.out]; exact cell_one_new _ _ _) (by simp [Value.oneCell', b8v]) (by unfold maxLen; omega) (by omega) (by simp; omega) ?_; intro v' w1 hown' hgrow _)
            all_goals
              have hB3 : Below W.heap.size W w1 := (hB.drew.alloc hsz _).grown hgrow (by simp; omega) (fun j e => ((hown.lt j e).1))
              have H3 : Hid (w1.ownsRow W.heap.size 5 1 v' (k + 1) ((upto (x3 a b c) (k + 1)).map b8v)) := by
                rw [upto_succ, List.map_append]; exact hown'
              clear hown' hown hgrow hB
              go_wp2
              go_roundw
              case rel => exact ⟨k + 1, by omega, by go_num, H3.out, hB3⟩
              case measure => simp [intOf]; omega
          · obtain rfl : k = a.size := by omega
            have hcv := owns_string (P := Try.prog) (src := 29) (dst := 9) Try.underlying29 Try.underlying5 Try.underlying9 hown
            have hcvd : (convert 29 9 u8).run Try.prog wr.drew = .ok (.string (bs (upto (x3 a b c) a.size))) wr.drew := owns_string (P := Try.prog) (src := 29) (dst := 9) Try.underlying29 Try.underlying5 Try.underlying9 hown.drew
            clear hcv
            go_wp2
            replace hB := hB.drew
            go_region_with (first
              | (go_at_call 26; refine (crcSum _ _ (by unfold maxLen; first | omega | (rw [bs_size, upto_length]; omega) | (simp; omega))).mono ?_; rintro e W5 ⟨rfl, h5⟩; replace hB := below_seq hB h5; clear h5))
            all_goals
              go_wp2
              go_ret
              exact ⟨ret_bool (turns_eq a b c hab hac), hB⟩

theorem own : ownKnob Try.prog.godebug = none := by kernel_rfl

set_option maxRecDepth 100000 in
theorem lifted (os : Os) (started : os.Started) (H : Type) (enc : TypeId × Value → H) :
    ReturnsInHanded {} Try.checked os 11 .any (Rows.crcTurnsSpec.pre6 enc Try.prog Try.f11 Rows.crcTurnsRow.domain false) (Rows.crcTurnsSpec.post enc Try.prog Try.f11 false true false false) := by
  refine returnsInHanded_of_change (C := Try.checked) own started (by kernel_rfl) Try.func11
    (ChangeSpec.witness6 (enc := enc) (C := Try.checked) false ⟨#[], #[.string ⟨#[]⟩, .string ⟨#[]⟩, .string ⟨#[]⟩], []⟩ 8 (by kernel_rfl) (by kernel_rfl) (by kernel_rfl) (by kernel_rfl)) ?_
  intro W base args ds gs before hval hW _ _
  have hW' := hW
  obtain ⟨p, q, hA0, hV, rfl, hfz, hnd⟩ := hW
  have hA : DataW.TrodAll enc Try.prog W 0 (fun _ => true) true Try.f11.params.toList args.toList ds p := hA0
  rw [Try.params11] at hA hval
  obtain ⟨v0, vs0, d0, ds0, p0, q0, hargs, rfl, rfl, h0, r0⟩ := trodAll_cons hA
  obtain ⟨v1, vs1, d1, ds1, p1, q1, rfl, rfl, rfl, h1, r1⟩ := trodAll_cons r0
  obtain ⟨v2, vs2, d2, ds2, p2, q2, rfl, rfl, rfl, h2, r2⟩ := trodAll_cons r1
  obtain ⟨rfl, rfl, rfl⟩ := trodAll_nil r2
  obtain rfl : args = #[v0, v1, v2] := by cases args; simp_all
  obtain ⟨rfl, rfl⟩ := trodVars_none hV
  obtain ⟨s0, rfl, rfl, rfl, hs0⟩ := open_string Try.underlying9 (hval 0 9 v0 rfl rfl) h0
  obtain ⟨s1, rfl, rfl, rfl, hs1⟩ := open_string Try.underlying9 (hval 1 9 v1 rfl rfl) h1
  obtain ⟨s2, rfl, rfl, rfl, hs2⟩ := open_string Try.underlying9 (hval 2 9 v2 rfl rfl) h2
  clear hA0
  simp only [List.append_nil] at hW'
  refine (walk s0 s1 s2 W hs0 hs1 hs2).mono fun e W' ⟨he, hB⟩ => ?_
  subst he
  exact ⟨_, rfl, ⟨_, _, _, [], [], [], hW', trodAll_cons_mk (shut_bool Try.underlying4 _) trodAll_mk0, (trodAll_cons_mk (shut_string Try.underlying9 hs0) (trodAll_cons_mk (shut_string Try.underlying9 hs1) (trodAll_cons_mk (shut_string Try.underlying9 hs2) trodAll_mk0))), rfl, hB.frame _, fun h => by cases h⟩⟩

theorem holds : Rows.CrcTurnsSaid :=
  OpenClaim.holds_of_wide 11 Try.f11 rfl rfl rfl rfl rfl rfl rfl ⟨rfl, rfl, rfl, rfl, rfl⟩ rfl rfl rfl rfl rfl (by kernel_rfl) Try.func11 (by kernel_rfl)
    (of_decide_eq_true (by kernel_rfl)) (by unfold Func.isWrapper; first | (rw [if_pos (by decide +kernel)]; kernel_rfl) | (rw [if_neg (by decide +kernel)]; exact ⟨rfl, rfl⟩))
    (fun os started H enc _ => lifted os started H enc)
end Go.Proofs.Ytoemjfjmpmngeaa.CrcTurns

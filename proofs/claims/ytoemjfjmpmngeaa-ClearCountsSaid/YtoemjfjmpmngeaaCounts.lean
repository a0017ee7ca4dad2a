/- As many bits go as are asked for, are there and are in the mask (ClearCounts), for all texts; no condition. -/
import Derived.Test.YtoemjfjmpmngeaaLaw
import Derived.ProofKit
import Derived.OpenShut
import Derived.ChangeMaps5
namespace Go.Proofs.Ytoemjfjmpmngeaa.ClearCounts
open Go.ChangeShapes Go.WideShapes Go.ChangeAt Go.RowKit Go.ChangeMaps
set_option linter.unusedVariables false
attribute [local go_sem] b8_andNot b8_and

set_option maxRecDepth 100000 in
set_option maxHeartbeats 4000000 in
theorem walk (o w m : ByteArray) (W : World) (ho : o.size ≤ maxLen) (hw : w.size ≤ maxLen) (hm : m.size ≤ maxLen) :
    Calls Try.prog 8 #[.string o, .string w, .string m] W fun e W' => e = .returned (.bool true) ∧ Below W.heap.size W W' := by
  have hlong : Calls Try.prog 15 #[.slice (some ⟨W.heap.size, 0, none⟩) 3 3] (W.alloc (.cells #[.string o, .string w, .string m] 9)) fun e W' => e = .returned (.bool (longB [o, w, m])) ∧ W.alloc (.cells #[.string o, .string w, .string m] 9) = W' :=
    long_any W.heap.size 3 [o, w, m] _ (by simp) (fun j h => by
      have hj : j < 3 := h
      rw [cell_of_row _ W.heap.size j _ _ (0, 0) (World.alloc_heap_new W _)]
      match j, hj with
      | 0, _ => rfl
      | 1, _ => rfl
      | 2, _ => rfl) (fun s hs => by
      rcases List.mem_cons.1 hs with h | hs
      · rw [h]; exact ho
      rcases List.mem_cons.1 hs with h | hs
      · rw [h]; exact hw
      rcases List.mem_cons.1 hs with h | hs
      · rw [h]; exact hm
      cases hs)
  have hB : Below W.heap.size W (W.alloc (.cells #[.string o, .string w, .string m] 9)) := (Below.refl _ _).alloc (Nat.le_refl _) _
  by_cases hl : longB [o, w, m] = true
  · rw [hl] at hlong
    have HL := Lib.hid hlong
    clear hlong hl
    go_enter Try.func8, Try.ntmps8
    go_wp2_with fail
    refine HL.out.mono ?_
    rintro e W1 ⟨rfl, rfl⟩
    clear HL
    go_wp2_with fail
    refine (shown_any _).mono ?_
    rintro e W2 ⟨rfl, h2⟩
    go_wp2
    go_ret
    exact ⟨rfl, below_seq hB h2⟩
  · have hl' : longB [o, w, m] = false := by simpa using hl
    have bo : o.size ≤ 500 := longB_no hl' (by simp)
    have bw : w.size ≤ 500 := longB_no hl' (by simp)
    have bm : m.size ≤ 500 := longB_no hl' (by simp)
    rw [hl'] at hlong
    have HL := Lib.hid hlong
    clear hlong hl hl'
    go_enter Try.func8, Try.ntmps8
    go_wp2_with fail
    refine HL.out.mono ?_
    rintro e W1 ⟨rfl, rfl⟩
    clear HL
    go_wp2_with fail
    refine (shown_any _).mono ?_
    rintro e W2 ⟨rfl, h2⟩
    replace hB := below_seq hB h2
    clear h2
    have hle := goTo_le (bl o) (bl w) (bl m)
    have Hle := Lib.hid hle
    clear hle
    go_wp2
    go_loopw [7, 8] (fun v i wr => ∃ k : Nat, k ≤ o.size ∧ i = .int .i64 k ∧ v = .int .i64 (goTo (bl o) (bl w) (bl m) k) ∧ Below W.heap.size W wr)
      (fun _ i _ => o.size - (intOf i).toNat)
    case atStart => exact ⟨0, Nat.zero_le _, rfl, rfl, hB⟩
    case round =>
      clear hB
      obtain ⟨k, hk, rfl, rfl, hB⟩ := hrel
      have hgk := Hle.out k
      by_cases hlt : k < o.size ∧ k < m.size ∧ k < w.size
      · obtain ⟨h1, h2, h3⟩ := hlt
        go_wp2
        go_quiet (fail)
        go_wp2
        have hpx := pop_le (band (bandn o[k] w[k]) m[k])
        have HF := Lib.hid (show goF (bl o) (bl w) (bl m) k = band (bandn o[k] w[k]) m[k] from by rw [goF, gd_in o k 0 h1, gd_in w k 255 h3, gd_in m k 0 h2])
        have HS := Lib.hid (goTo_succ (bl o) (bl w) (bl m) k)
        go_loop [7, 9] (fun v y => ∃ (x : UInt8) (c : Nat), c + pop x = pop (band (bandn o[k] w[k]) m[k]) ∧ y = .int .u8 (x.toNat : Int) ∧ v = .int .i64 (goTo (bl o) (bl w) (bl m) k + c))
          (fun _ y => pop (UInt8.ofNat (intOf y).toNat))
        case atStart => exact ⟨_, 0, by simp, rfl, by simp⟩
        case round =>
          obtain ⟨x, c, hc, rfl, rfl⟩ := hrel
          have Hc := Lib.hid hc
          have hcl : c ≤ 8 := by omega
          clear hc
          by_cases hx0 : x = 0
          · subst hx0
            go_wp2
            go_roundw
            case rel => exact ⟨k + 1, by omega, by go_num, by rw [HS.out, HF.out, ← Hc.out, pop_zero]; go_num, below_drewN0 hB nq⟩
            case measure => simp [intOf]; omega
          · have hx1 : ((x.toNat : Int) != 0) = true := by rw [u8_bne0]; simp [hx0]
            have HK := Lib.hid (b8_kern x hx0)
            have HP := Lib.hid (pop_kern x hx0)
            go_wp2
            go_round
            case rel => exact ⟨kern x, c + 1, by have := HP.out; have := Hc.out; omega, by rw [HK.out], by go_num⟩
            case measure => rw [HK.out]; have := HP.out; simp [intOf]; omega
      · have hst : goTo (bl o) (bl w) (bl m) o.size = goTo (bl o) (bl w) (bl m) k := by
          rw [← bl_length o]
          refine goTo_stop _ _ _ k (by rw [bl_length]; exact hk) ?_
          rw [bl_length, bl_length, bl_length]
          by_cases h1 : k = o.size
          · exact .inr h1
          · exact .inl (fun h => hlt ⟨by omega, h.1, h.2⟩)
        have T10 : ∀ W, Calls Try.prog 23 #[.string o, .string (tornB o w m)] W fun e W' => e = .returned (.int .i64 (goTo (bl o) (bl w) (bl m) k)) ∧ Below W.heap.size W W' := fun W => by
          have h := clrBits o (tornB o w m) W (by omega) (by rw [tornB_size]; exact ho); rwa [bits_tornB_go, hst] at h
        have T1 := Lib.hid T10
        clear T10
        clear hst
        have hcase : k = o.size ∨ (k < o.size ∧ m.size ≤ k) ∨ (k < o.size ∧ k < m.size ∧ w.size ≤ k) := by omega
        clear hlt
        rcases hcase with h1 | ⟨h1, h2⟩ | ⟨h1, h2, h3⟩
        · subst h1
          go_wp2_with fail
          refine (clrTorn _ _ _ _ (by omega) hw hm).mono ?_
          rintro e W3 ⟨rfl, h3⟩
          replace hB := below_seq hB h3
          clear h3
          go_wp2_with fail
          refine (T1.out _).mono ?_
          rintro e W4 ⟨rfl, h4⟩
          replace hB := below_seq hB h4
          clear h4
          go_wp2
          go_ret
          exact ⟨rfl, hB⟩
        · go_wp2_with fail
          refine (clrTorn _ _ _ _ (by omega) hw hm).mono ?_
          rintro e W3 ⟨rfl, h3⟩
          replace hB := below_seq hB h3
          clear h3
          go_wp2_with fail
          refine (T1.out _).mono ?_
          rintro e W4 ⟨rfl, h4⟩
          replace hB := below_seq hB h4
          clear h4
          go_wp2
          go_ret
          exact ⟨rfl, hB⟩
        · go_wp2_with fail
          refine (clrTorn _ _ _ _ (by omega) hw hm).mono ?_
          rintro e W3 ⟨rfl, h3⟩
          replace hB := below_seq hB h3
          clear h3
          go_wp2_with fail
          refine (T1.out _).mono ?_
          rintro e W4 ⟨rfl, h4⟩
          replace hB := below_seq hB h4
          clear h4
          go_wp2
          go_ret
          exact ⟨rfl, hB⟩

theorem own : ownKnob Try.prog.godebug = none := by kernel_rfl

set_option maxRecDepth 100000 in
theorem lifted (os : Os) (started : os.Started) (H : Type) (enc : TypeId × Value → H) :
    ReturnsInHanded {} Try.checked os 8 .any (Rows.clearCountsSpec.pre6 enc Try.prog Try.f8 Rows.clearCountsRow.domain false) (Rows.clearCountsSpec.post enc Try.prog Try.f8 false true false false) := by
  refine returnsInHanded_of_change (C := Try.checked) own started (by kernel_rfl) Try.func8
    (ChangeSpec.witness6 (enc := enc) (C := Try.checked) false ⟨#[], #[.string ⟨#[]⟩, .string ⟨#[]⟩, .string ⟨#[]⟩], []⟩ 8 (by kernel_rfl) (by kernel_rfl) (by kernel_rfl) (by kernel_rfl)) ?_
  intro W base args ds gs before hval hW _ _
  have hW' := hW
  obtain ⟨p, q, hA0, hV, rfl, hfz, hnd⟩ := hW
  have hA : DataW.TrodAll enc Try.prog W 0 (fun _ => true) true Try.f8.params.toList args.toList ds p := hA0
  rw [Try.params8] at hA hval
  obtain ⟨v0, vs0, d0, ds0, p0, q0, hargs, rfl, rfl, h0, r0⟩ := trodAll_cons hA
  obtain ⟨v1, vs1, d1, ds1, p1, q1, rfl, rfl, rfl, h1, r1⟩ := trodAll_cons r0
  obtain ⟨v2, vs2, d2, ds2, p2, q2, rfl, rfl, rfl, h2, r2⟩ := trodAll_cons r1
  obtain ⟨rfl, rfl, rfl⟩ := trodAll_nil r2
  obtain rfl : args = #[v0, v1, v2] := by cases args; simp_all
  obtain ⟨rfl, rfl⟩ := trodVars_none hV
  obtain ⟨s0, rfl, rfl, rfl, hs0⟩ := open_string Try.underlying9 (hval 0 9 v0 rfl rfl) h0
  obtain ⟨s1, rfl, rfl, rfl, hs1⟩ := open_string Try.underlying9 (hval 1 9 v1 rfl rfl) h1
  obtain ⟨s2, rfl, rfl, rfl, hs2⟩ := open_string Try.underlying9 (hval 2 9 v2 rfl rfl) h2
  clear hA0
  simp only [List.append_nil] at hW'
  refine (walk s0 s1 s2 W hs0 hs1 hs2).mono fun e W' ⟨he, hB⟩ => ?_
  subst he
  exact ⟨_, rfl, ⟨_, _, _, [], [], [], hW', trodAll_cons_mk (shut_bool Try.underlying4 _) trodAll_mk0, (trodAll_cons_mk (shut_string Try.underlying9 hs0) (trodAll_cons_mk (shut_string Try.underlying9 hs1) (trodAll_cons_mk (shut_string Try.underlying9 hs2) trodAll_mk0))), rfl, hB.frame _, fun h => by cases h⟩⟩

theorem holds : Rows.ClearCountsSaid :=
  OpenClaim.holds_of_wide 8 Try.f8 rfl rfl rfl rfl rfl rfl rfl ⟨rfl, rfl, rfl, rfl, rfl⟩ rfl rfl rfl rfl rfl (by kernel_rfl) Try.func8 (by kernel_rfl)
    (of_decide_eq_true (by kernel_rfl)) (by unfold Func.isWrapper; first | (rw [if_pos (by decide +kernel)]; kernel_rfl) | (rw [if_neg (by decide +kernel)]; exact ⟨rfl, rfl⟩))
    (fun os started H enc _ => lifted os started H enc)
end Go.Proofs.Ytoemjfjmpmngeaa.ClearCounts

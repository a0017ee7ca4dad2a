/- Torn by one mask and then by another is torn by the bits of both (ClearTwice), for all texts; no condition. -/
import Derived.Test.YtoemjfjmpmngeaaLaw
import Derived.ProofKit
import Derived.OpenShut
import Derived.ChangeMaps5
namespace Go.Proofs.Ytoemjfjmpmngeaa.ClearTwice
open Go.ChangeShapes Go.WideShapes Go.ChangeAt Go.RowKit Go.ChangeMaps
set_option linter.unusedVariables false
attribute [local go_sem] b8_or b8_or0 gdI_0

set_option maxRecDepth 100000 in
set_option maxHeartbeats 4000000 in
theorem walk (o w a b : ByteArray) (W : World) (ho : o.size ≤ maxLen) (hw : w.size ≤ maxLen) (ha : a.size ≤ maxLen) (hb : b.size ≤ maxLen) :
    Calls Try.prog 7 #[.string o, .string w, .string a, .string b] W fun e W' => e = .returned (.bool true) ∧ Below W.heap.size W W' := by
  have hlong : Calls Try.prog 15 #[.slice (some ⟨W.heap.size, 0, none⟩) 4 4] (W.alloc (.cells #[.string o, .string w, .string a, .string b] 9)) fun e W' => e = .returned (.bool (longB [o, w, a, b])) ∧ W.alloc (.cells #[.string o, .string w, .string a, .string b] 9) = W' :=
    long_any W.heap.size 4 [o, w, a, b] _ (by simp) (fun j h => by
      have hj : j < 4 := h
      rw [cell_of_row _ W.heap.size j _ _ (0, 0) (World.alloc_heap_new W _)]
      match j, hj with
      | 0, _ => rfl
      | 1, _ => rfl
      | 2, _ => rfl
      | 3, _ => rfl) (fun s hs => by
      rcases List.mem_cons.1 hs with h | hs
      · rw [h]; exact ho
      rcases List.mem_cons.1 hs with h | hs
      · rw [h]; exact hw
      rcases List.mem_cons.1 hs with h | hs
      · rw [h]; exact ha
      rcases List.mem_cons.1 hs with h | hs
      · rw [h]; exact hb
      cases hs)
  have hB : Below W.heap.size W (W.alloc (.cells #[.string o, .string w, .string a, .string b] 9)) := (Below.refl _ _).alloc (Nat.le_refl _) _
  by_cases hl : longB [o, w, a, b] = true
  · rw [hl] at hlong
    have HL := Lib.hid hlong
    clear hlong hl
    go_enter Try.func7, Try.ntmps7
    go_wp2_with fail
    refine HL.out.mono ?_
    rintro e W1 ⟨rfl, rfl⟩
    clear HL
    go_wp2_with fail
    refine (shown_any _).mono ?_
    rintro e W2 ⟨rfl, h2⟩
    go_wp2
    go_ret
    exact ⟨rfl, below_seq hB h2⟩
  · have hl' : longB [o, w, a, b] = false := by simpa using hl
    have bo : o.size ≤ 500 := longB_no hl' (by simp)
    have bw : w.size ≤ 500 := longB_no hl' (by simp)
    have ba : a.size ≤ 500 := longB_no hl' (by simp)
    have bb : b.size ≤ 500 := longB_no hl' (by simp)
    rw [hl'] at hlong
    have HL := Lib.hid hlong
    clear hlong hl hl'
    go_enter Try.func7, Try.ntmps7
    go_wp2_with fail
    refine HL.out.mono ?_
    rintro e W1 ⟨rfl, rfl⟩
    clear HL
    go_wp2_with fail
    refine (shown_any _).mono ?_
    rintro e W2 ⟨rfl, h2⟩
    replace hB := below_seq hB h2
    clear h2
    have hal : (bs (upto (bothF (bl a) (bl b)) o.size)).size ≤ maxLen := by rw [bs_size, upto_length]; exact ho
    have T10 : ∀ W, Calls Try.prog 19 #[.string (tornB o w a), .string w, .string b] W fun e W' => e = .returned (.string (tornB o w (bs (upto (bothF (bl a) (bl b)) o.size)))) ∧ Below W.heap.size W W' := fun W => by
      have h := clrTorn (tornB o w a) w b W (by rw [tornB_size]; omega) hw hb; rwa [torn_tornB] at h
    have T1 := Lib.hid T10
    clear T10
    have T20 : ∀ W, Calls Try.prog 19 #[.string o, .string w, .string (bs (upto (bothF (bl a) (bl b)) o.size))] W fun e W' => e = .returned (.string (tornB o w (bs (upto (bothF (bl a) (bl b)) o.size)))) ∧ Below W.heap.size W W' := fun W => by
      exact clrTorn o w (bs (upto (bothF (bl a) (bl b)) o.size)) W (by omega) hw hal
    have T2 := Lib.hid T20
    clear T20
    clear hal
    go_wp2
    go_loopw [9, 10] (fun v i wr => ∃ k : Nat, k ≤ o.size ∧ i = .int .i64 k ∧ v = .string (bs (upto (bothF (bl a) (bl b)) k)) ∧ Below W.heap.size W wr)
      (fun _ i _ => o.size - (intOf i).toNat)
    case atStart => exact ⟨0, Nat.zero_le _, rfl, rfl, hB⟩
    case round =>
      clear hB
      obtain ⟨k, hk, rfl, rfl, hB⟩ := hrel
      by_cases hlt : k < o.size
      · have hz : (bs (upto (bothF (bl a) (bl b)) k)).size ≤ 1000 := by rw [bs_size, upto_length]; omega
        have HP := fun x : UInt8 => Lib.hid (bs_push (upto (bothF (bl a) (bl b)) k) x)
        have hone : ∀ x : UInt8, (convert 29 9 (.slice (some ⟨wr.heap.size, 0, none⟩) 1 1)).run Try.prog (wr.alloc (.cells #[.int .u8 (x.toNat : Int)] 5)) = .ok (.string (bs [x])) (wr.alloc (.cells #[.int .u8 (x.toNat : Int)] 5)) := fun x =>
          one_string Try.underlying29 Try.underlying5 Try.underlying9 wr x
        have Hone := Lib.hid hone
        clear hone
        by_cases ha1 : k < a.size
        · by_cases hb1 : k < b.size
          · have hc := Hone.out (bor a[k] b[k])
            have hx : bothF (bl a) (bl b) k = bor a[k] b[k] := by rw [bothF, gd_in a k 0 ha1, gd_in b k 0 hb1]
            have Hx := Lib.hid hx
            have hz1 : (bs [bor a[k] b[k]]).size ≤ 1000 := by rw [bs_size]; simp
            clear hx
            go_wp2
            go_roundw
            case rel => exact ⟨k + 1, by omega, by go_num, by rw [upto_succ, Hx.out, ← (HP (bor a[k] b[k])).out], hB.alloc hB.size _⟩
            case measure => simp [intOf]; omega
          · have hc := Hone.out (a[k])
            have hx : bothF (bl a) (bl b) k = a[k] := by rw [bothF, gd_in a k 0 ha1, gd_out b k 0 hb1, bor_zero]
            have Hx := Lib.hid hx
            have hz1 : (bs [a[k]]).size ≤ 1000 := by rw [bs_size]; simp
            clear hx
            go_wp2
            go_roundw
            case rel => exact ⟨k + 1, by omega, by go_num, by rw [upto_succ, Hx.out, ← (HP (a[k])).out], hB.alloc hB.size _⟩
            case measure => simp [intOf]; omega
        · by_cases hb1 : k < b.size
          · have hc := Hone.out (b[k])
            have hx : bothF (bl a) (bl b) k = b[k] := by rw [bothF, gd_out a k 0 ha1, gd_in b k 0 hb1, zero_bor]
            have Hx := Lib.hid hx
            have hz1 : (bs [b[k]]).size ≤ 1000 := by rw [bs_size]; simp
            clear hx
            go_wp2
            go_roundw
            case rel => exact ⟨k + 1, by omega, by go_num, by rw [upto_succ, Hx.out, ← (HP (b[k])).out], hB.alloc hB.size _⟩
            case measure => simp [intOf]; omega
          · have hc : (convert 29 9 (.slice (some ⟨wr.heap.size, 0, none⟩) 1 1)).run Try.prog (wr.alloc (.cells #[.int .u8 0] 5)) = .ok (.string (bs [0])) (wr.alloc (.cells #[.int .u8 0] 5)) := Hone.out 0
            have hx : bothF (bl a) (bl b) k = 0 := by rw [bothF, gd_out a k 0 ha1, gd_out b k 0 hb1]; rfl
            have Hx := Lib.hid hx
            have hz1 : (bs [0]).size ≤ 1000 := by rw [bs_size]; simp
            clear hx
            go_wp2
            go_roundw
            case rel => exact ⟨k + 1, by omega, by go_num, by rw [upto_succ, Hx.out, ← (HP (0)).out], hB.alloc hB.size _⟩
            case measure => simp [intOf]; omega
      · obtain rfl : k = o.size := by omega
        go_wp2_with fail
        refine (clrTorn _ _ _ _ (by omega) hw ha).mono ?_
        rintro e W3 ⟨rfl, h3⟩
        replace hB := below_seq hB h3
        clear h3
        go_wp2_with fail
        refine (T1.out _).mono ?_
        rintro e W4 ⟨rfl, h4⟩
        replace hB := below_seq hB h4
        clear h4
        go_wp2_with fail
        refine (T2.out _).mono ?_
        rintro e W5 ⟨rfl, h5⟩
        replace hB := below_seq hB h5
        clear h5
        go_wp2
        go_ret
        exact ⟨rfl, hB⟩

theorem own : ownKnob Try.prog.godebug = none := by kernel_rfl

set_option maxRecDepth 100000 in
theorem lifted (os : Os) (started : os.Started) (H : Type) (enc : TypeId × Value → H) :
    ReturnsInHanded {} Try.checked os 7 .any (Rows.clearTwiceSpec.pre6 enc Try.prog Try.f7 Rows.clearTwiceRow.domain false) (Rows.clearTwiceSpec.post enc Try.prog Try.f7 false true false false) := by
  refine returnsInHanded_of_change (C := Try.checked) own started (by kernel_rfl) Try.func7
    (ChangeSpec.witness6 (enc := enc) (C := Try.checked) false ⟨#[], #[.string ⟨#[]⟩, .string ⟨#[]⟩, .string ⟨#[]⟩, .string ⟨#[]⟩], []⟩ 8 (by kernel_rfl) (by kernel_rfl) (by kernel_rfl) (by kernel_rfl)) ?_
  intro W base args ds gs before hval hW _ _
  have hW' := hW
  obtain ⟨p, q, hA0, hV, rfl, hfz, hnd⟩ := hW
  have hA : DataW.TrodAll enc Try.prog W 0 (fun _ => true) true Try.f7.params.toList args.toList ds p := hA0
  rw [Try.params7] at hA hval
  obtain ⟨v0, vs0, d0, ds0, p0, q0, hargs, rfl, rfl, h0, r0⟩ := trodAll_cons hA
  obtain ⟨v1, vs1, d1, ds1, p1, q1, rfl, rfl, rfl, h1, r1⟩ := trodAll_cons r0
  obtain ⟨v2, vs2, d2, ds2, p2, q2, rfl, rfl, rfl, h2, r2⟩ := trodAll_cons r1
  obtain ⟨v3, vs3, d3, ds3, p3, q3, rfl, rfl, rfl, h3, r3⟩ := trodAll_cons r2
  obtain ⟨rfl, rfl, rfl⟩ := trodAll_nil r3
  obtain rfl : args = #[v0, v1, v2, v3] := by cases args; simp_all
  obtain ⟨rfl, rfl⟩ := trodVars_none hV
  obtain ⟨s0, rfl, rfl, rfl, hs0⟩ := open_string Try.underlying9 (hval 0 9 v0 rfl rfl) h0
  obtain ⟨s1, rfl, rfl, rfl, hs1⟩ := open_string Try.underlying9 (hval 1 9 v1 rfl rfl) h1
  obtain ⟨s2, rfl, rfl, rfl, hs2⟩ := open_string Try.underlying9 (hval 2 9 v2 rfl rfl) h2
  obtain ⟨s3, rfl, rfl, rfl, hs3⟩ := open_string Try.underlying9 (hval 3 9 v3 rfl rfl) h3
  clear hA0
  simp only [List.append_nil] at hW'
  refine (walk s0 s1 s2 s3 W hs0 hs1 hs2 hs3).mono fun e W' ⟨he, hB⟩ => ?_
  subst he
  exact ⟨_, rfl, ⟨_, _, _, [], [], [], hW', trodAll_cons_mk (shut_bool Try.underlying4 _) trodAll_mk0, (trodAll_cons_mk (shut_string Try.underlying9 hs0) (trodAll_cons_mk (shut_string Try.underlying9 hs1) (trodAll_cons_mk (shut_string Try.underlying9 hs2) (trodAll_cons_mk (shut_string Try.underlying9 hs3) trodAll_mk0)))), rfl, hB.frame _, fun h => by cases h⟩⟩

theorem holds : Rows.ClearTwiceSaid :=
  OpenClaim.holds_of_wide 7 Try.f7 rfl rfl rfl rfl rfl rfl rfl ⟨rfl, rfl, rfl, rfl, rfl⟩ rfl rfl rfl rfl rfl (by kernel_rfl) Try.func7 (by kernel_rfl)
    (of_decide_eq_true (by kernel_rfl)) (by unfold Func.isWrapper; first | (rw [if_pos (by decide +kernel)]; kernel_rfl) | (rw [if_neg (by decide +kernel)]; exact ⟨rfl, rfl⟩))
    (fun os started H enc _ => lifted os started H enc)
end Go.Proofs.Ytoemjfjmpmngeaa.ClearTwice

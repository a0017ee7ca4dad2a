/- Torn by no bit nothing changes, by all it is done, and done twice is done once (ClearEnds), for all texts; no condition. -/
import Derived.Test.YtoemjfjmpmngeaaLaw
import Derived.ProofKit
import Derived.OpenShut
import Derived.ChangeMaps5
namespace Go.Proofs.Ytoemjfjmpmngeaa.ClearEnds
open Go.ChangeShapes Go.WideShapes Go.ChangeAt Go.RowKit Go.ChangeMaps
set_option linter.unusedVariables false

set_option maxRecDepth 100000 in
set_option maxHeartbeats 4000000 in
theorem walk (o w : ByteArray) (W : World) (ho : o.size ≤ maxLen) (hw : w.size ≤ maxLen) :
    Calls Try.prog 6 #[.string o, .string w] W fun e W' => e = .returned (.bool true) ∧ Below W.heap.size W W' := by
  have hlong : Calls Try.prog 15 #[.slice (some ⟨W.heap.size, 0, none⟩) 2 2] (W.alloc (.cells #[.string o, .string w] 9)) fun e W' => e = .returned (.bool (longB [o, w])) ∧ W.alloc (.cells #[.string o, .string w] 9) = W' :=
    long_any W.heap.size 2 [o, w] _ (by simp) (fun j h => by
      have hj : j < 2 := h
      rw [cell_of_row _ W.heap.size j _ _ (0, 0) (World.alloc_heap_new W _)]
      match j, hj with
      | 0, _ => rfl
      | 1, _ => rfl) (fun s hs => by
      rcases List.mem_cons.1 hs with h | hs
      · rw [h]; exact ho
      rcases List.mem_cons.1 hs with h | hs
      · rw [h]; exact hw
      cases hs)
  have hB : Below W.heap.size W (W.alloc (.cells #[.string o, .string w] 9)) := (Below.refl _ _).alloc (Nat.le_refl _) _
  by_cases hl : longB [o, w] = true
  · rw [hl] at hlong
    have HL := Lib.hid hlong
    clear hlong hl
    go_enter Try.func6, Try.ntmps6
    go_wp2_with fail
    refine HL.out.mono ?_
    rintro e W1 ⟨rfl, rfl⟩
    clear HL
    go_wp2_with fail
    refine (shown_any _).mono ?_
    rintro e W2 ⟨rfl, h2⟩
    go_wp2
    go_ret
    exact ⟨rfl, below_seq hB h2⟩
  · have hl' : longB [o, w] = false := by simpa using hl
    have bo : o.size ≤ 500 := longB_no hl' (by simp)
    have bw : w.size ≤ 500 := longB_no hl' (by simp)
    rw [hl'] at hlong
    have HL := Lib.hid hlong
    clear hlong hl hl'
    go_enter Try.func6, Try.ntmps6
    go_wp2_with fail
    refine HL.out.mono ?_
    rintro e W1 ⟨rfl, rfl⟩
    clear HL
    go_wp2_with fail
    refine (shown_any _).mono ?_
    rintro e W2 ⟨rfl, h2⟩
    replace hB := below_seq hB h2
    clear h2
    have hal : (bs (List.replicate o.size 255)).size ≤ maxLen := by rw [bs_size, List.length_replicate]; exact ho
    have T10 : ∀ W, Calls Try.prog 19 #[.string o, .string w, .string ⟨#[]⟩] W fun e W' => e = .returned (.string o) ∧ Below W.heap.size W W' := fun W => by
      have h := clrTorn o w ⟨#[]⟩ W (by omega) hw (by decide); rwa [torn_noneB] at h
    have T1 := Lib.hid T10
    clear T10
    have T20 : ∀ W, Calls Try.prog 19 #[.string o, .string w, .string (bs (List.replicate o.size 255))] W fun e W' => e = .returned (.string (andB o w)) ∧ Below W.heap.size W W' := fun W => by
      have h := clrTorn o w (bs (List.replicate o.size 255)) W (by omega) hw hal; rwa [torn_allB] at h
    have T2 := Lib.hid T20
    clear T20
    have T30 : ∀ W, Calls Try.prog 17 #[.string (andB o w), .string w] W fun e W' => e = .returned (.string (andB o w)) ∧ Below W.heap.size W W' := fun W => by
      have h := clrAnd (andB o w) w W (by rw [andB_size]; omega) hw; rwa [and_andB] at h
    have T3 := Lib.hid T30
    clear T30
    have T40 : ∀ W, Calls Try.prog 17 #[.string o, .string (bs (List.replicate o.size 255))] W fun e W' => e = .returned (.string o) ∧ Below W.heap.size W W' := fun W => by
      have h := clrAnd o (bs (List.replicate o.size 255)) W (by omega) hal; rwa [and_allB] at h
    have T4 := Lib.hid T40
    clear T40
    have T50 : ∀ W, Calls Try.prog 23 #[.string (andB o w), .string ⟨#[]⟩] W fun e W' => e = .returned (.int .i64 0) ∧ Below W.heap.size W W' := fun W => by
      have h := clrBits (andB o w) ⟨#[]⟩ W (by rw [andB_size]; omega) (by decide); rwa [bits_noneB] at h
    have T5 := Lib.hid T50
    clear T50
    have T60 : ∀ W, Calls Try.prog 23 #[.string o, .string o] W fun e W' => e = .returned (.int .i64 0) ∧ Below W.heap.size W W' := fun W => by
      have h := clrBits o o W (by omega) ho; rwa [bits_selfB] at h
    have T6 := Lib.hid T60
    clear T60
    clear hal
    go_wp2
    go_loop [5, 6] (fun v i => ∃ k : Nat, k ≤ o.size ∧ i = .int .i64 k ∧ v = .string (bs (List.replicate k 255)))
      (fun _ i => o.size - (intOf i).toNat)
    case atStart => exact ⟨0, Nat.zero_le _, rfl, rfl⟩
    case round =>
      obtain ⟨k, hk, rfl, rfl⟩ := hrel
      by_cases hlt : k < o.size
      · have hz : (bs (List.replicate k 255)).size ≤ 1000 := by rw [bs_size, List.length_replicate]; omega
        have HP := Lib.hid (show bs (List.replicate k 255) ++ ⟨#[255]⟩ = bs (List.replicate (k + 1) 255) from by rw [List.replicate_succ']; exact bs_push _ 255)
        go_wp2
        go_round
        case rel => exact ⟨k + 1, by omega, by go_num, by rw [← HP.out]⟩
        case measure => simp [intOf]; omega
      · obtain rfl : k = o.size := by omega
        go_wp2_with fail
        refine (clrAnd _ _ _ (by omega) hw).mono ?_
        rintro e W3 ⟨rfl, h3⟩
        replace hB := below_seq hB h3
        clear h3
        go_wp2_with fail
        refine (T1.out _).mono ?_
        rintro e W4 ⟨rfl, h4⟩
        replace hB := below_seq hB h4
        clear h4
        go_wp2_with fail
        refine (T2.out _).mono ?_
        rintro e W5 ⟨rfl, h5⟩
        replace hB := below_seq hB h5
        clear h5
        go_wp2_with fail
        refine (T3.out _).mono ?_
        rintro e W6 ⟨rfl, h6⟩
        replace hB := below_seq hB h6
        clear h6
        go_wp2_with fail
        refine (T4.out _).mono ?_
        rintro e W7 ⟨rfl, h7⟩
        replace hB := below_seq hB h7
        clear h7
        go_wp2_with fail
        refine (T5.out _).mono ?_
        rintro e W8 ⟨rfl, h8⟩
        replace hB := below_seq hB h8
        clear h8
        go_wp2_with fail
        refine (T6.out _).mono ?_
        rintro e W9 ⟨rfl, h9⟩
        replace hB := below_seq hB h9
        clear h9
        go_wp2
        go_ret
        exact ⟨rfl, hB⟩

theorem own : ownKnob Try.prog.godebug = none := by kernel_rfl

set_option maxRecDepth 100000 in
theorem lifted (os : Os) (started : os.Started) (H : Type) (enc : TypeId × Value → H) :
    ReturnsInHanded {} Try.checked os 6 .any (Rows.clearEndsSpec.pre6 enc Try.prog Try.f6 Rows.clearEndsRow.domain false) (Rows.clearEndsSpec.post enc Try.prog Try.f6 false true false false) := by
  refine returnsInHanded_of_change (C := Try.checked) own started (by kernel_rfl) Try.func6
    (ChangeSpec.witness6 (enc := enc) (C := Try.checked) false ⟨#[], #[.string ⟨#[]⟩, .string ⟨#[]⟩], []⟩ 8 (by kernel_rfl) (by kernel_rfl) (by kernel_rfl) (by kernel_rfl)) ?_
  intro W base args ds gs before hval hW _ _
  have hW' := hW
  obtain ⟨p, q, hA0, hV, rfl, hfz, hnd⟩ := hW
  have hA : DataW.TrodAll enc Try.prog W 0 (fun _ => true) true Try.f6.params.toList args.toList ds p := hA0
  rw [Try.params6] at hA hval
  obtain ⟨v0, vs0, d0, ds0, p0, q0, hargs, rfl, rfl, h0, r0⟩ := trodAll_cons hA
  obtain ⟨v1, vs1, d1, ds1, p1, q1, rfl, rfl, rfl, h1, r1⟩ := trodAll_cons r0
  obtain ⟨rfl, rfl, rfl⟩ := trodAll_nil r1
  obtain rfl : args = #[v0, v1] := by cases args; simp_all
  obtain ⟨rfl, rfl⟩ := trodVars_none hV
  obtain ⟨s0, rfl, rfl, rfl, hs0⟩ := open_string Try.underlying9 (hval 0 9 v0 rfl rfl) h0
  obtain ⟨s1, rfl, rfl, rfl, hs1⟩ := open_string Try.underlying9 (hval 1 9 v1 rfl rfl) h1
  clear hA0
  simp only [List.append_nil] at hW'
  refine (walk s0 s1 W hs0 hs1).mono fun e W' ⟨he, hB⟩ => ?_
  subst he
  exact ⟨_, rfl, ⟨_, _, _, [], [], [], hW', trodAll_cons_mk (shut_bool Try.underlying4 _) trodAll_mk0, (trodAll_cons_mk (shut_string Try.underlying9 hs0) (trodAll_cons_mk (shut_string Try.underlying9 hs1) trodAll_mk0)), rfl, hB.frame _, fun h => by cases h⟩⟩

theorem holds : Rows.ClearEndsSaid :=
  OpenClaim.holds_of_wide 6 Try.f6 rfl rfl rfl rfl rfl rfl rfl ⟨rfl, rfl, rfl, rfl, rfl⟩ rfl rfl rfl rfl rfl (by kernel_rfl) Try.func6 (by kernel_rfl)
    (of_decide_eq_true (by kernel_rfl)) (by unfold Func.isWrapper; first | (rw [if_pos (by decide +kernel)]; kernel_rfl) | (rw [if_neg (by decide +kernel)]; exact ⟨rfl, rfl⟩))
    (fun os started H enc _ => lifted os started H enc)
end Go.Proofs.Ytoemjfjmpmngeaa.ClearEnds

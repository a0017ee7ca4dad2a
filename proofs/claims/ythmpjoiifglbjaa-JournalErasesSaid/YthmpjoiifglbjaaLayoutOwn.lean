/- The program's own functions of layer 5: contracts only. -/
import Derived.Test.YthmpjoiifglbjaaLayout
namespace Go.Proofs.Ythmpjoiifglbjaa
open Go.RowKit
set_option linter.unusedVariables false

set_option maxRecDepth 100000 in
theorem lay05At (n : Int) (W : World) : Calls Try.prog 75 #[.int .i64 n] W fun e W' => e = .returned (.int .i64 (atF n)) ∧ W' = W := by
  by_cases h1 : n < 0
  · have H := Lib.hid (atF_out (k := n) (by omega))
    go_enter Try.func75, Try.ntmps75
    go_wp2
    go_ret
    exact ⟨ret_int H.out.symm, rfl⟩
  · by_cases h2 : 12 < n
    · have H := Lib.hid (atF_out (k := n) (by omega))
      go_enter Try.func75, Try.ntmps75
      go_wp2
      go_ret
      exact ⟨ret_int H.out.symm, rfl⟩
    · have H := Lib.hid (show atF n = n * 24 from by rw [atF_in (k := n) (by omega)]; omega)
      go_enter Try.func75, Try.ntmps75
      go_wp2
      go_ret
      exact ⟨ret_int H.out.symm, rfl⟩

set_option maxRecDepth 100000 in
theorem lay05Size (n : Int) (W : World) : Calls Try.prog 61 #[.int .i64 n] W fun e W' => e = .returned (.int .i64 (sizeF n)) ∧ W' = W := by
  by_cases h1 : n < 1
  · have H := Lib.hid (sizeF_out (n := n) (by omega))
    go_enter Try.func61, Try.ntmps61
    go_wp2
    go_ret
    exact ⟨ret_int H.out.symm, rfl⟩
  · by_cases h2 : 12 < n
    · have H := Lib.hid (sizeF_out (n := n) (by omega))
      go_enter Try.func61, Try.ntmps61
      go_wp2
      go_ret
      exact ⟨ret_int H.out.symm, rfl⟩
    · have H := Lib.hid (show sizeF n = 24 * n + 24 from sizeF_in (n := n) (by omega))
      have T := Lib.hid (fun W => (show Calls Try.prog 75 #[.int .i64 n] W fun e W' => e = .returned (.int .i64 (24 * n)) ∧ W' = W from atF_in (k := n) (by omega) ▸ lay05At n W))
      go_enter Try.func61, Try.ntmps61
      go_wp2_with fail
      refine (T.out _).mono ?_
      rintro e w' ⟨rfl, rfl⟩
      go_wp2
      go_ret
      exact ⟨ret_int H.out.symm, rfl⟩

set_option maxRecDepth 100000 in
theorem lay05Mark (n : Int) (W : World) : Calls Try.prog 80 #[.int .i64 n] W fun e W' => e = .returned (.int .i64 (markF n)) ∧ W' = W := by
  by_cases h : 0 ≤ n ∧ n ≤ 12
  · have H := Lib.hid (show markF n = 24 * n + 24 - 2 from by rw [markF_in h]; omega)
    have T := Lib.hid (fun W => (show Calls Try.prog 75 #[.int .i64 n] W fun e W' => e = .returned (.int .i64 (24 * n)) ∧ W' = W from atF_in h ▸ lay05At n W))
    obtain ⟨h1, h2⟩ := h
    have b1 : ((24 * n : Int) == -1) = false := beq_eq_false_iff_ne.2 (by omega)
    go_enter Try.func80, Try.ntmps80
    go_wp2_with fail
    refine (T.out _).mono ?_
    rintro e w' ⟨rfl, rfl⟩
    go_wp2
    go_ret
    exact ⟨ret_int H.out.symm, rfl⟩
  · have H := Lib.hid (markF_out h)
    have T := Lib.hid (fun W => (show Calls Try.prog 75 #[.int .i64 n] W fun e W' => e = .returned (.int .i64 (-1)) ∧ W' = W from atF_out h ▸ lay05At n W))
    clear h
    go_enter Try.func80, Try.ntmps80
    go_wp2_with fail
    refine (T.out _).mono ?_
    rintro e w' ⟨rfl, rfl⟩
    go_wp2
    go_ret
    exact ⟨ret_int H.out.symm, rfl⟩

set_option maxRecDepth 100000 in
set_option maxHeartbeats 1000000 in
theorem lay05Slots (s : Int) (W : World) :
    Calls Try.prog 41 #[.int .i64 s] W fun e W' => e = .returned (.int .i64 (slotsF s)) ∧ W' = W := by
  have T : ∀ (n : Int) W, 1 ≤ n → n ≤ 12 → Calls Try.prog 61 #[.int .i64 n] W fun e W' => e = .returned (.int .i64 (24 * n + 24)) ∧ W' = W := fun n W h1 h2 => sizeF_in ⟨h1, h2⟩ ▸ lay05Size n W
  replace T := Lib.hid T
  go_enter Try.func41, Try.ntmps41
  go_wp2
  go_loop [3] (fun i => ∃ k : Nat, 1 ≤ k ∧ k ≤ 13 ∧ i = .int .i64 k ∧ ∀ j : Int, 1 ≤ j → j < k → 24 * j + 24 ≠ s) (fun i => 13 - (intOf i).toNat)
  case atStart => exact ⟨1, by omega, by omega, rfl, fun j h1 h2 => by omega⟩
  case round =>
    obtain ⟨k, hk1, hk, rfl, hno⟩ := hrel
    replace hno := Lib.hid hno
    by_cases hlt : k < 13
    · have hle : (k : Int) ≤ 12 := by omega
      by_cases he : 24 * (k : Int) + 24 = s
      · have H := Lib.hid (show slotsF s = k from by rw [← he]; exact slotsF_size (by omega))
        have h2 : ((24 * (k : Int) + 24 : Int) == s) = true := beq_iff_eq.2 he
        clear he
        go_wp2_with fail
        refine (T.out _ _ (by omega) (by omega)).mono ?_
        rintro e w' ⟨rfl, rfl⟩
        go_wp2
        go_ret
        exact ⟨ret_int H.out.symm, rfl⟩
      · have hno2 := Lib.hid (show ∀ j : Int, 1 ≤ j → j < ((k + 1 : Nat) : Int) → 24 * j + 24 ≠ s from fun j h1 h2 => by
          by_cases e : j = k
          · subst e; exact he
          · exact hno.out j h1 (by omega))
        have h2 : ((24 * (k : Int) + 24 : Int) == s) = false := beq_eq_false_iff_ne.2 he
        clear he
        go_wp2_with fail
        refine (T.out _ _ (by omega) (by omega)).mono ?_
        rintro e w' ⟨rfl, rfl⟩
        go_wp2
        go_round
        case rel => exact ⟨k + 1, by omega, by omega, by go_num, hno2.out⟩
        case measure => simp [intOf]; omega
    · have hle : ¬ (k : Int) ≤ 12 := by omega
      have H := Lib.hid (show slotsF s = 0 from slotsF_out (fun h => by
        have := hno.out (s / 24 - 1) (by omega) (by omega)
        omega))
      go_wp2
      go_ret
      exact ⟨ret_int H.out.symm, rfl⟩

theorem own05Size (n : Int) (W : World) : Calls Try.prog 61 #[.int .i64 n] W fun e W' => e = .returned (.int .i64 (sizeF n)) ∧ Below W.heap.size W W' :=
  (lay05Size n W).mono (fun e w' h => ⟨h.1, by rw [h.2]; exact Below.refl _ _⟩)

theorem own05Slots (n : Int) (W : World) : Calls Try.prog 41 #[.int .i64 n] W fun e W' => e = .returned (.int .i64 (slotsF n)) ∧ Below W.heap.size W W' :=
  (lay05Slots n W).mono (fun e w' h => ⟨h.1, by rw [h.2]; exact Below.refl _ _⟩)

theorem own05At (n : Int) (W : World) : Calls Try.prog 75 #[.int .i64 n] W fun e W' => e = .returned (.int .i64 (atF n)) ∧ Below W.heap.size W W' :=
  (lay05At n W).mono (fun e w' h => ⟨h.1, by rw [h.2]; exact Below.refl _ _⟩)

theorem own05Mark (n : Int) (W : World) : Calls Try.prog 80 #[.int .i64 n] W fun e W' => e = .returned (.int .i64 (markF n)) ∧ Below W.heap.size W W' :=
  (lay05Mark n W).mono (fun e w' h => ⟨h.1, by rw [h.2]; exact Below.refl _ _⟩)

end Go.Proofs.Ythmpjoiifglbjaa

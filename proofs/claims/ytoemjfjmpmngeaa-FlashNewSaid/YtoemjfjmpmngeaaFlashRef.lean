/- The reference's functions of layer 3 (New, Blank), and its blanks: contracts only. -/
import Derived.Test.YtoemjfjmpmngeaaRows
import Derived.Test.YtoemjfjmpmngeaaFlash
import Derived.Test.YtoemjfjmpmngeaaInts
import Derived.WalkKit
import Derived.ProofKit
import Derived.Lib.Hide
namespace Go.Proofs.Ytoemjfjmpmngeaa
open Go.RowKit
set_option linter.unusedVariables false

theorem blankT_size (n : Nat) : (blankT n).size = n := by rw [blankT, bs_size, List.length_replicate]
theorem blankT_succ (n : Nat) : blankT n ++ ⟨#[255]⟩ = blankT (n + 1) := by
  unfold blankT
  rw [List.replicate_succ']
  generalize List.replicate n (255 : UInt8) = l
  show bs l ++ bs [255] = bs (l ++ [255])
  apply ByteArray.ext
  simp [bs, ByteArray.data_append]
theorem blank_beq (s : ByteArray) : (s.toList == (blankT s.size).toList) = blankB s := by
  have h0 : s.toList = bl s := by rw [ByteArray.toList_eq]; rfl
  have h1 : (blankT s.size).toList = List.replicate (bl s).length 255 := by rw [ByteArray.toList_eq, bl_length]; simp [blankT, bs]
  rw [h0, h1]
  unfold blankB
  induction bl s with
  | nil => rfl
  | cons b l ih =>
    rw [List.length_cons, List.replicate_succ]
    simp only [List.all_cons]
    rw [← ih]
    rfl

set_option maxRecDepth 100000 in
set_option maxHeartbeats 1000000 in
theorem refBlank0 (n : Nat) (W : World) (hn : n ≤ 140737488351232) :
    Calls Try.prog 46 #[.int .i64 n] W fun e W' => e = .returned (.string (blankT n)) ∧ W' = W := by
  go_enter Try.func46, Try.ntmps46
  go_wp2
  go_loop [3, 4] (fun v i => ∃ k : Nat, k ≤ n ∧ i = .int .i64 k ∧ v = .string (blankT k))
    (fun _ i => n - (intOf i).toNat)
  case atStart => exact ⟨0, Nat.zero_le _, rfl, rfl⟩
  case round =>
    obtain ⟨k, hk, rfl, rfl⟩ := hrel
    have hz := blankT_size k
    have hz2 : (blankT k).size ≤ 140737488351232 := by omega
    clear hz
    by_cases hlt : k < n
    · have HP := Lib.hid (blankT_succ k)
      go_wp2
      go_round
      case rel => exact ⟨k + 1, by omega, by go_num, by rw [← HP.out]⟩
      case measure => simp [intOf]; omega
    · obtain rfl : k = n := by omega
      go_wp2
      go_ret
      exact ⟨rfl, rfl⟩

set_option maxRecDepth 100000 in
theorem refBlank3 (s : ByteArray) (W : World) (hs : s.size ≤ 140737488351232) :
    Calls Try.prog 37 #[.string s] W fun e W' => e = .returned (.bool (blankB s)) ∧ W' = W := by
  have HB := Lib.hid (blank_beq s)
  go_enter Try.func37, Try.ntmps37
  go_wp2_with fail
  refine (refBlank0 _ _ hs).mono ?_
  rintro e w' ⟨rfl, rfl⟩
  go_wp2
  go_ret
  exact ⟨ret_bool HB.out, rfl⟩

set_option maxRecDepth 100000 in
set_option maxHeartbeats 1000000 in
theorem refNew3 (size lim : Int) (W : World) :
    Calls Try.prog 35 #[.int .i64 size, .int .i64 lim] W fun e W' =>
      e = .returned (.agg #[.string (newF size lim).b0, .string (newF size lim).b1, .int .i64 (newF size lim).e0, .int .i64 (newF size lim).e1, .int .i64 (newF size lim).lim]) ∧ Below W.heap.size W W' := by
  by_cases h1 : size < 0
  · have H : newF size lim = ⟨⟨#[]⟩, ⟨#[]⟩, 0, 0, 0⟩ := if_pos (.inl h1)
    rw [H]; clear H
    go_enter Try.func35, Try.ntmps35
    go_wp2
    exact bodyPost_ret (v := .agg #[.string ⟨#[]⟩, .string ⟨#[]⟩, .int .i64 0, .int .i64 0, .int .i64 0]) (by simp [results, Try.results35, go_sem]) rfl ⟨rfl, by first | exact (Below.refl _ _).alloc (Nat.le_refl _) _ | exact ((Below.refl _ _).alloc (Nat.le_refl _) _).setCell (Nat.le_refl _) _⟩
  · by_cases h2 : 400 < size
    · have H : newF size lim = ⟨⟨#[]⟩, ⟨#[]⟩, 0, 0, 0⟩ := if_pos (.inr (.inl h2))
      rw [H]; clear H
      go_enter Try.func35, Try.ntmps35
      go_wp2
      exact bodyPost_ret (v := .agg #[.string ⟨#[]⟩, .string ⟨#[]⟩, .int .i64 0, .int .i64 0, .int .i64 0]) (by simp [results, Try.results35, go_sem]) rfl ⟨rfl, by first | exact (Below.refl _ _).alloc (Nat.le_refl _) _ | exact ((Below.refl _ _).alloc (Nat.le_refl _) _).setCell (Nat.le_refl _) _⟩
    · by_cases h3 : lim < 0
      · have H : newF size lim = ⟨⟨#[]⟩, ⟨#[]⟩, 0, 0, 0⟩ := if_pos (.inr (.inr (.inl h3)))
        rw [H]; clear H
        go_enter Try.func35, Try.ntmps35
        go_wp2
        exact bodyPost_ret (v := .agg #[.string ⟨#[]⟩, .string ⟨#[]⟩, .int .i64 0, .int .i64 0, .int .i64 0]) (by simp [results, Try.results35, go_sem]) rfl ⟨rfl, by first | exact (Below.refl _ _).alloc (Nat.le_refl _) _ | exact ((Below.refl _ _).alloc (Nat.le_refl _) _).setCell (Nat.le_refl _) _⟩
      · by_cases h4 : 1000 < lim
        · have H : newF size lim = ⟨⟨#[]⟩, ⟨#[]⟩, 0, 0, 0⟩ := if_pos (.inr (.inr (.inr h4)))
          rw [H]; clear H
          go_enter Try.func35, Try.ntmps35
          go_wp2
          exact bodyPost_ret (v := .agg #[.string ⟨#[]⟩, .string ⟨#[]⟩, .int .i64 0, .int .i64 0, .int .i64 0]) (by simp [results, Try.results35, go_sem]) rfl ⟨rfl, by first | exact (Below.refl _ _).alloc (Nat.le_refl _) _ | exact ((Below.refl _ _).alloc (Nat.le_refl _) _).setCell (Nat.le_refl _) _⟩
        · obtain ⟨n, rfl⟩ := Int.eq_ofNat_of_zero_le (by omega : 0 ≤ size)
          have H : newF (n : Int) lim = ⟨blankT n, blankT n, 0, 0, lim⟩ := if_neg (by omega)
          rw [H]; clear H
          have h5 : ¬ lim < 0 := h3
          go_enter Try.func35, Try.ntmps35
          go_wp2_with (go_at_call 46; refine (refBlank0 _ _ (by omega)).mono ?_; rintro e w' ⟨rfl, rfl⟩)
          exact bodyPost_ret (v := .agg #[.string (blankT n), .string (blankT n), .int .i64 0, .int .i64 0, .int .i64 lim]) (by simp [results, Try.results35, go_sem]) rfl ⟨rfl, (Below.refl _ _).alloc (Nat.le_refl _) _⟩

set_option maxRecDepth 100000 in
theorem flIts (f : Fl) (W : World) : Calls Try.prog 33 #[.agg #[.string f.b0, .string f.b1, .int .i64 f.e0, .int .i64 f.e1, .int .i64 f.lim]] W fun e W' => e = .returned (.agg #[.string f.b0, .string f.b1, .int .i64 f.e0, .int .i64 f.e1, .int .i64 f.lim]) ∧ Below W.heap.size W W' := by
  go_enter Try.func33, Try.ntmps33
  go_wp2
  exact bodyPost_ret (v := .agg #[.string f.b0, .string f.b1, .int .i64 f.e0, .int .i64 f.e1, .int .i64 f.lim]) (by simp [results, Try.results33, go_sem]) rfl ⟨rfl, ((Below.refl _ _).alloc (Nat.le_refl _) _).alloc (by simp) _⟩
end Go.Proofs.Ytoemjfjmpmngeaa

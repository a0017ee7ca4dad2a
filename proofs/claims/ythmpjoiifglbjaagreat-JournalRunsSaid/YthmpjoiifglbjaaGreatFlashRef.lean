/- The reference's functions of layer 3 (New, Blank), and its blanks: contracts only. -/
import Derived.Test.YthmpjoiifglbjaaGreatRows
import Derived.Test.YthmpjoiifglbjaaGreatFlash
import Derived.Test.YthmpjoiifglbjaaGreatInts
import Derived.WalkKit
import Derived.ProofKit
import Derived.Lib.Hide
namespace Go.Proofs.YthmpjoiifglbjaaGreat
open Go.RowKit
set_option linter.unusedVariables false

theorem blankT_size (n : Nat) : (blankT n).size = n := by rw [blankT, bs_size, List.length_replicate]
theorem blankT_succ (n : Nat) : blankT n ++ ⟨#[255]⟩ = blankT (n + 1) := by
  unfold blankT
  rw [List.replicate_succ']
  generalize List.replicate n (255 : UInt8) = l
  show bs l ++ bs [255] = bs (l ++ [255])
  apply ByteArray.ext
  simp [bs, ByteArray.data_append]
theorem blank_beq (s : ByteArray) : (s.toList == (blankT s.size).toList) = blankB s := by
  have h0 : s.toList = bl s := by rw [ByteArray.toList_eq]; rfl
  have h1 : (blankT s.size).toList = List.replicate (bl s).length 255 := by rw [ByteArray.toList_eq, bl_length]; simp [blankT, bs]
  rw [h0, h1]
  unfold blankB
  induction bl s with
  | nil => rfl
  | cons b l ih =>
    rw [List.length_cons, List.replicate_succ]
    simp only [List.all_cons]
    rw [← ih]
    rfl

set_option maxRecDepth 100000 in
set_option maxHeartbeats 1000000 in
theorem refBlank0 (n : Nat) (W : World) (hn : n ≤ 140737488351232) :
    Calls Tryz.prog 102 #[.int .i64 n] W fun e W' => e = .returned (.string (blankT n)) ∧ W' = W := by
  go_enter Tryz.func102, Tryz.ntmps102
  go_wp2
  go_loop [3, 4] (fun v i => ∃ k : Nat, k ≤ n ∧ i = .int .i64 k ∧ v = .string (blankT k))
    (fun _ i => n - (intOf i).toNat)
  case atStart => exact ⟨0, Nat.zero_le _, rfl, rfl⟩
  case round =>
    obtain ⟨k, hk, rfl, rfl⟩ := hrel
    have hz := blankT_size k
    have hz2 : (blankT k).size ≤ 140737488351232 := by omega
    clear hz
    by_cases hlt : k < n
    · have HP := Lib.hid (blankT_succ k)
      go_wp2
      go_round
      case rel => exact ⟨k + 1, by omega, by go_num, by rw [← HP.out]⟩
      case measure => simp [intOf]; omega
    · obtain rfl : k = n := by omega
      go_wp2
      go_ret
      exact ⟨rfl, rfl⟩

set_option maxRecDepth 100000 in
theorem refBlank3 (s : ByteArray) (W : World) (hs : s.size ≤ 140737488351232) :
    Calls Tryz.prog 108 #[.string s] W fun e W' => e = .returned (.bool (blankB s)) ∧ W' = W := by
  have HB := Lib.hid (blank_beq s)
  go_enter Tryz.func108, Tryz.ntmps108
  go_wp2_with fail
  refine (refBlank0 _ _ hs).mono ?_
  rintro e w' ⟨rfl, rfl⟩
  go_wp2
  go_ret
  exact ⟨ret_bool HB.out, rfl⟩

end Go.Proofs.YthmpjoiifglbjaaGreat

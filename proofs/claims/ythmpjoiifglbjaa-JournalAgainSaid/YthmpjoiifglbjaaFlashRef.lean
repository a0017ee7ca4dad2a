/- The reference's functions of layer 3 (New, Blank), and its blanks: contracts only. -/
import Derived.Test.YthmpjoiifglbjaaRows
import Derived.Test.YthmpjoiifglbjaaFlash
import Derived.Test.YthmpjoiifglbjaaInts
import Derived.WalkKit
import Derived.ProofKit
import Derived.Lib.Hide
namespace Go.Proofs.Ythmpjoiifglbjaa
open Go.RowKit
set_option linter.unusedVariables false

theorem blankT_size (n : Nat) : (blankT n).size = n := by rw [blankT, bs_size, List.length_replicate]
theorem blankT_succ (n : Nat) : blankT n ++ ⟨#[255]⟩ = blankT (n + 1) := by
  unfold blankT
  rw [List.replicate_succ']
  generalize List.replicate n (255 : UInt8) = l
  show bs l ++ bs [255] = bs (l ++ [255])
  apply ByteArray.ext
  simp [bs, ByteArray.data_append]
theorem blank_beq (s : ByteArray) : (s.toList == (blankT s.size).toList) = blankB s := by
  have h0 : s.toList = bl s := by rw [ByteArray.toList_eq]; rfl
  have h1 : (blankT s.size).toList = List.replicate (bl s).length 255 := by rw [ByteArray.toList_eq, bl_length]; simp [blankT, bs]
  rw [h0, h1]
  unfold blankB
  induction bl s with
  | nil => rfl
  | cons b l ih =>
    rw [List.length_cons, List.replicate_succ]
    simp only [List.all_cons]
    rw [← ih]
    rfl

end Go.Proofs.Ythmpjoiifglbjaa

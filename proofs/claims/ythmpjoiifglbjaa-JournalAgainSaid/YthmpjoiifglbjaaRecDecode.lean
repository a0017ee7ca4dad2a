/- The document's own Decode and Good of layer 7: contracts only. -/
import Derived.Test.YthmpjoiifglbjaaCrcRef
import Derived.Test.YthmpjoiifglbjaaRecPlain
import Derived.Test.YthmpjoiifglbjaaBs
import Derived.Deep.RegionHeld3
import Derived.Test.YthmpjoiifglbjaaFlashRef
import Derived.WalkKit
import Derived.ProofKit
import Derived.Lib.Hide
import Derived.WalkLawsBesides
import Derived.WalkSpells
import Derived.IntWalk
namespace Go.Proofs.Ythmpjoiifglbjaa
open Go.RowKit
set_option linter.unusedVariables false
set_option linter.unusedSimpArgs false

end Go.Proofs.Ythmpjoiifglbjaa
namespace Go.Proofs.Ythmpjoiifglbjaa
open Go.RowKit
set_option linter.unusedVariables false
set_option linter.unusedSimpArgs false

theorem sumOk_iff (s : ByteArray) (h : s.size = 24) : sumOk (bl s) ↔ (s.extract 18 22) = (bs (low4 (sumN ((bl s).take 18)))) := by
  have e18 : bl (s.extract 18 22) = ((bl s).drop 18).take 4 := by rw [bl_extract]; simp [List.drop_take]
  exact ⟨fun h => bl_inj (by rw [e18, bl_bs]; exact h), fun h => by have := congrArg bl h; rw [e18, bl_bs] at this; exact this⟩
theorem mark_iff (s : ByteArray) (h : s.size = 24) : (bl s).drop 22 = markL ↔ s.extract 22 24 = bs markL := by
  have e22 : bl (s.extract 22 24) = (bl s).drop 22 := by rw [bl_extract, List.take_of_length_le (by rw [bl_length]; omega)]
  exact ⟨fun h => bl_inj (by rw [e22, bl_bs]; exact h), fun h => by have := congrArg bl h; rw [e22, bl_bs] at this; exact this⟩
theorem get_part (s : ByteArray) (a b : Nat) (h : b - a = 8) : getB (s.extract a b) = getN (((bl s).drop a).take 8) := by
  unfold getB; rw [bl_extract, List.drop_take, h]
  exact Nat.mod_eq_of_lt (Nat.lt_of_lt_of_le (getN_lt _) (Nat.pow_le_pow_right (by decide) (show _ ≤ 8 from by simp; omega)))
theorem beq_texts {a b : ByteArray} (h : a = b) : (a.toList == b.toList) = true := by rw [h]; exact beq_self_eq_true _
theorem bne_texts {a b : ByteArray} (h : a ≠ b) : (a.toList == b.toList) = false := by
  rw [beq_eq_false_iff_ne]; intro k; rw [ByteArray.toList_eq, ByteArray.toList_eq] at k; exact h (bl_inj k)

end Go.Proofs.Ythmpjoiifglbjaa

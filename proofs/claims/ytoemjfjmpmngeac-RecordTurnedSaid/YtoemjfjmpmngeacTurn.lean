/- Bytes of a text that are turned, up to four side by side: no statement is proved here. -/
import Derived.Test.YtoemjfjmpmngeacBytes
namespace Go.Proofs.Ytoemjfjmpmngeac
open Go.RowKit
set_option linter.unusedVariables false
/-- The four bytes that turn. -/
def ys (a b c d : UInt8) : List UInt8 := [a, b, c, d]
/-- The text's bytes, of which k from p on are turned. -/
def turnF (s : ByteArray) (y : List UInt8) (p k : Nat) (i : Nat) : UInt8 := if p ≤ i ∧ i < p + k then bxor (gd (bl s) i 0) (gd y (i - p) 0) else gd (bl s) i 0
def turnL (s : ByteArray) (y : List UInt8) (p k : Nat) : List UInt8 := upto (turnF s y p k) s.size
theorem turnL_length (s : ByteArray) (y : List UInt8) (p k : Nat) : (turnL s y p k).length = s.size := upto_length _ _
theorem turnL_zero (s : ByteArray) (y : List UInt8) (p : Nat) : turnL s y p 0 = bl s :=
  upto_eq' (by rw [bl_length]) fun i hi => by unfold turnF; rw [if_neg (by omega)]
theorem turnL_succ (s : ByteArray) (y : List UInt8) (p k : Nat) (h : p + k < s.size) : turnL s y p (k + 1) = (turnL s y p k).set (p + k) (bxor (gd (turnL s y p k) (p + k) 0) (gd y k 0)) := by
  have hg : gd (turnL s y p k) (p + k) 0 = gd (bl s) (p + k) 0 := by
    rw [turnL, gd_upto', if_pos h, turnF, if_neg (by omega)]
  rw [hg]
  apply List.ext_getElem
  · simp [turnL, upto]
  · intro i h1 h2
    rw [List.getElem_set]
    have hi : i < s.size := by simpa [turnL, upto] using h1
    simp only [turnL, upto, List.getElem_map, List.getElem_range]
    by_cases e : p + k = i
    · subst e; rw [if_pos rfl, turnF, if_pos (by omega), show p + k - p = k from by omega]
    · rw [if_neg e]; unfold turnF
      by_cases e2 : p ≤ i ∧ i < p + k
      · rw [if_pos e2, if_pos (by omega)]
      · rw [if_neg e2, if_neg (by omega)]
/-- Are the first k of the turning bytes 0? -/
def sameTo (y : List UInt8) (k : Nat) : Bool := (List.range k).all fun i => gd y i 0 == 0
theorem sameTo_succ (y : List UInt8) (k : Nat) : sameTo y (k + 1) = (sameTo y k && (gd y k 0 == 0)) := by simp [sameTo, List.range_succ]
theorem upto_append {α : Type} (f : Nat → α) (m n : Nat) : upto f (m + n) = upto f m ++ upto (fun j => f (m + j)) n := by
  simp [upto, List.range_add, Function.comp_def]
theorem upto_eq_iff {α : Type} {f g : Nat → α} {n : Nat} : upto f n = upto g n ↔ ∀ i, i < n → f i = g i := by
  constructor
  · intro h i hi
    have := congrArg (fun l : List α => l[i]?) h
    simpa [upto, hi] using this
  · intro h; unfold upto; exact List.map_congr_left fun i hi => h i (List.mem_range.1 hi)
theorem bxor_self_iff (a x : UInt8) : a = bxor a x ↔ x = 0 := by
  unfold bxor
  constructor
  · intro h
    have h2 : a ^^^ a = a ^^^ (a ^^^ x) := congrArg (a ^^^ ·) h
    rw [← UInt8.xor_assoc, UInt8.xor_self, UInt8.zero_xor] at h2
    exact h2.symm
  · rintro rfl; simp
/-- The text and the turned one, in three parts. -/
theorem turn_parts (s : ByteArray) (y : List UInt8) (p k : Nat) (hpk : p + k ≤ s.size) : ∃ a w v r : List UInt8, bl s = a ++ w ++ r ∧ turnL s y p k = a ++ v ++ r ∧ w.length = k ∧ v.length = k ∧ a.length = p ∧ (w = v ↔ ∀ i, i < k → gd y i 0 = 0) := by
  obtain ⟨r, hr⟩ : ∃ r, s.size = p + (k + r) := ⟨s.size - p - k, by omega⟩
  refine ⟨upto (fun i => gd (bl s) i 0) p, upto (fun j => gd (bl s) (p + j) 0) k, upto (fun j => bxor (gd (bl s) (p + j) 0) (gd y j 0)) k, upto (fun j => gd (bl s) (p + (k + j)) 0) r, ?_, ?_, upto_length _ _, upto_length _ _, upto_length _ _, ?_⟩
  · have h : upto (fun i => gd (bl s) i 0) (p + (k + r)) = bl s := upto_eq' (by rw [bl_length]; exact hr) fun i _ => rfl
    rw [upto_append, upto_append] at h
    rw [List.append_assoc]; exact h.symm
  · rw [turnL, hr, upto_append, upto_append, List.append_assoc]
    congr 1
    · exact upto_eq_iff.2 fun i hi => by unfold turnF; rw [if_neg (by omega)]
    · congr 1
      · exact upto_eq_iff.2 fun j hj => by unfold turnF; rw [if_pos (by omega), show p + j - p = j from by omega]
      · exact upto_eq_iff.2 fun j hj => by unfold turnF; rw [if_neg (by omega)]
  · rw [upto_eq_iff]
    exact ⟨fun h i hi => (bxor_self_iff _ _).1 (h i hi), fun h i hi => (bxor_self_iff _ _).2 (h i hi)⟩
end Go.Proofs.Ytoemjfjmpmngeac

/- Where slots are, as the document says it, on whole numbers; plain laws: no statement is proved here. -/
import Derived.ProofKit
namespace Go.Proofs.Ythmpjoiifglbjaa
set_option linter.unusedVariables false

def sizeF (n : Int) : Int := if 1 ≤ n ∧ n ≤ 12 then 24 * n + 24 else 0
def slotsF (s : Int) : Int := if 48 ≤ s ∧ s ≤ 312 ∧ s % 24 = 0 then s / 24 - 1 else 0
def evenB (n : Int) : Bool := decide (1 ≤ n ∧ n ≤ 12)
def atF (k : Int) : Int := if 0 ≤ k ∧ k ≤ 12 then 24 * k else -1
def markF (k : Int) : Int := if 0 ≤ k ∧ k ≤ 12 then 24 * k + 22 else -1
theorem sizeF_in {n : Int} (h : 1 ≤ n ∧ n ≤ 12) : sizeF n = 24 * n + 24 := if_pos h
theorem sizeF_out {n : Int} (h : ¬ (1 ≤ n ∧ n ≤ 12)) : sizeF n = 0 := if_neg h
theorem slotsF_in {s : Int} (h : 48 ≤ s ∧ s ≤ 312 ∧ s % 24 = 0) : slotsF s = s / 24 - 1 := if_pos h
theorem slotsF_out {s : Int} (h : ¬ (48 ≤ s ∧ s ≤ 312 ∧ s % 24 = 0)) : slotsF s = 0 := if_neg h
theorem slotsF_size {n : Int} (h : 1 ≤ n ∧ n ≤ 12) : slotsF (24 * n + 24) = n := by rw [slotsF_in (by omega)]; omega
theorem evenB_in {n : Int} (h : 1 ≤ n ∧ n ≤ 12) : evenB n = true := by unfold evenB; simp; omega
theorem evenB_out {n : Int} (h : ¬ (1 ≤ n ∧ n ≤ 12)) : evenB n = false := by unfold evenB; simp; omega
theorem atF_in {k : Int} (h : 0 ≤ k ∧ k ≤ 12) : atF k = 24 * k := if_pos h
theorem atF_out {k : Int} (h : ¬ (0 ≤ k ∧ k ≤ 12)) : atF k = -1 := if_neg h
theorem markF_in {k : Int} (h : 0 ≤ k ∧ k ≤ 12) : markF k = 24 * k + 22 := if_pos h
theorem markF_out {k : Int} (h : ¬ (0 ≤ k ∧ k ≤ 12)) : markF k = -1 := if_neg h
end Go.Proofs.Ythmpjoiifglbjaa

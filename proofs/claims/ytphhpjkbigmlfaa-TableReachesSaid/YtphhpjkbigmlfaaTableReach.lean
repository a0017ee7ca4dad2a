/- What is reached from a mode in some steps: plain laws. -/
import Derived.Test.YtphhpjkbigmlfaaTableWays
namespace Go.Proofs.Ytphhpjkbigmlfaa
set_option linter.unusedVariables false

def growG (l : List Int) (k : Nat) : List Int := l ++ (l.take k).flatMap waysL
def reachL (a : Int) : Nat → List Int
  | 0 => [a]
  | n + 1 => growG (reachL a n) (reachL a n).length
theorem growG_zero (l : List Int) : growG l 0 = l := by simp [growG]
theorem growG_succ {l : List Int} {k : Nat} {v : Int} (h : l[k]? = some v) : growG l (k + 1) = growG l k ++ waysL v := by
  unfold growG; rw [List.take_add_one, h]; simp [List.append_assoc]
theorem growG_len (l : List Int) (k : Nat) (h : k ≤ l.length) : (growG l k).length ≤ l.length + 6 * k := by
  induction k with
  | zero => rw [growG_zero]; omega
  | succ k ih =>
    rw [growG_succ (List.getElem?_eq_getElem (by omega)), List.length_append]
    have := ih (by omega); have := waysL_len (l[k]'(by omega)); omega
theorem reachL_len (a : Int) (n : Nat) : (reachL a n).length ≤ 7 ^ n := by
  induction n with
  | zero => exact Nat.le_refl _
  | succ n ih => have := growG_len (reachL a n) _ (Nat.le_refl _); rw [reachL, Nat.pow_succ]; omega
theorem reachL_in {a : Int} (h : 0 ≤ a ∧ a ≤ 7) (n : Nat) : ∀ v ∈ reachL a n, 0 ≤ v ∧ v ≤ 7 := by
  induction n with
  | zero => intro v hv; obtain rfl : v = a := by simpa [reachL] using hv
            exact h
  | succ n ih =>
    intro v hv
    rw [reachL, growG, List.mem_append, List.mem_flatMap] at hv
    rcases hv with hv | ⟨w, _, hw⟩
    · exact ih v hv
    · have hw := ways_mem.1 hw
      cases k : modeB v with
      | true => have := mode_cases k; omega
      | false => rw [way_none (Or.inr k)] at hw; cases hw
theorem reach_table : ((List.range 8).all fun (a : Nat) => (List.range 8).all fun (b : Nat) => decide ((b : Int) ∈ reachL (a : Int) 3) == (decide (a ≤ 5) && decide (b ≤ 5) || a == b)) = true := by decide +kernel
theorem reach_all {a b : Nat} (ha : a < 8) (hb : b < 8) : decide ((b : Int) ∈ reachL (a : Int) 3) = (decide (a ≤ 5) && decide (b ≤ 5) || a == b) := by
  have h := List.all_eq_true.1 (List.all_eq_true.1 reach_table a (List.mem_range.2 ha)) b (List.mem_range.2 hb)
  exact beq_iff_eq.1 h
end Go.Proofs.Ytphhpjkbigmlfaa

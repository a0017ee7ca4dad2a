/- Modes and the ways between them, as the document says it; plain laws, no statement is proved here. -/
import Derived.Test.YtdfacpppmfoiiaaInts
namespace Go.Proofs.Ytdfacpppmfoiiaa
set_option linter.unusedVariables false

def modeB (m : Int) : Bool := decide (0 ≤ m ∧ m ≤ 5)
def wayB (a b : Int) : Bool :=
  if modeB a = true ∧ modeB b = true then
    (if a = b then true else if a = 0 then decide (b = 1) else if a = 1 then true else if a = 2 ∨ a = 3 then decide (b ≠ 0) else if a = 4 then decide (b = 1 ∨ b = 2 ∨ b = 5) else decide (b = 1 ∨ b = 0))
  else false
def needsN (m : Int) : Int := if m = 1 ∨ m = 5 then 1 else if m = 2 ∨ m = 4 then 2 else if m = 3 then 3 else 0
def homeB (m : Int) : Bool := decide (m = 3 ∨ m = 4)
def flyB (m : Int) : Bool := modeB m && decide (m ≠ 0)
def waysL (a : Int) : List Int := [0, 1, 2, 3, 4, 5].filter (fun b => wayB a b)
theorem mode_cases {m : Int} (h : modeB m = true) : m = 0 ∨ m = 1 ∨ m = 2 ∨ m = 3 ∨ m = 4 ∨ m = 5 := by
  unfold modeB at h; have := of_decide_eq_true h; omega
theorem mode_not {m : Int} (h : modeB m = false) : m < 0 ∨ 5 < m := by
  unfold modeB at h; have := of_decide_eq_false h; omega
theorem way_none {a b : Int} (h : modeB a = false ∨ modeB b = false) : wayB a b = false := by
  unfold wayB; rw [if_neg (fun k => by rcases h with h | h; · rw [h] at k; cases k.1
                                       · rw [h] at k; cases k.2)]
theorem ways_none {a : Int} (h : modeB a = false) : waysL a = [] := by
  unfold waysL; simp [way_none (Or.inl h)]
theorem ways_mem {a b : Int} : b ∈ waysL a ↔ wayB a b = true := by
  unfold waysL
  rw [List.mem_filter]
  refine ⟨fun h => h.2, fun h => ⟨?_, h⟩⟩
  have hb : modeB b = true := by
    cases k : modeB b with
    | true => rfl
    | false => rw [way_none (Or.inr k)] at h; cases h
  rcases mode_cases hb with rfl | rfl | rfl | rfl | rfl | rfl <;> decide
theorem ways_cases (a : Int) : waysL a = (if a = 0 then [0, 1] else if a = 1 then [0, 1, 2, 3, 4, 5] else if a = 2 ∨ a = 3 then [1, 2, 3, 4, 5] else if a = 4 then [1, 2, 4, 5] else if a = 5 then [0, 1, 5] else []) := by
  cases h : modeB a with
  | true => rcases mode_cases h with rfl | rfl | rfl | rfl | rfl | rfl <;> decide
  | false =>
    have := mode_not h
    rw [ways_none h, if_neg (by omega), if_neg (by omega), if_neg (by omega), if_neg (by omega), if_neg (by omega)]
def waysTo (a : Int) (k : Nat) : List Int := ((List.range k).map (fun (j : Nat) => (j : Int))).filter (wayB a)
theorem waysTo_yes {a : Int} {k : Nat} (h : wayB a (k : Int) = true) : waysTo a (k + 1) = waysTo a k ++ [(k : Int)] := by
  unfold waysTo; rw [List.range_succ, List.map_append, List.filter_append]; simp [h]
theorem waysTo_no {a : Int} {k : Nat} (h : wayB a (k : Int) = false) : waysTo a (k + 1) = waysTo a k := by
  unfold waysTo; rw [List.range_succ, List.map_append, List.filter_append]; simp [h]
theorem waysTo_all (a : Int) : waysTo a 6 = waysL a := rfl
theorem waysTo_len (a : Int) (k : Nat) : (waysTo a k).length ≤ k := by
  unfold waysTo; refine Nat.le_trans (List.length_filter_le _ _) ?_; simp
theorem waysL_len (a : Int) : (waysL a).length ≤ 6 := waysTo_len a 6
end Go.Proofs.Ytdfacpppmfoiiaa

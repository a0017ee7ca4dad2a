/- Slices of numbers that are handed in, opened: no statement is proved here. -/
import Derived.Test.YthmpjoiifglbjaaLaid
import Derived.Lib.SmallJoins
import Derived.Deep.Slices
import Derived.OpenShut
import Derived.ChangeMaps5
namespace Go.Proofs.Ythmpjoiifglbjaa
open Go.ChangeShapes Go.WideShapes Go.ChangeAt Go.RowKit Go.ChangeMaps Go.Joins
set_option linter.unusedVariables false

def u64V (d : Nat) : List Value := [.int .u64 (d : Int)]

set_option maxRecDepth 100000 in
theorem open_u64s {H : Type} {enc : TypeId × Value → H} {W : World} {base : Nat} {v : Value} {d : DataW H} {p : List MemPlace}
    (hval : Value.okWide Try.prog W .any base 45 v) (h : DataW.Trod enc Try.prog W 0 (fun _ => true) true 45 v d p) :
    ∃ (l : List Nat) (A : Option Addr) (c : Nat), v = .slice A l.length c ∧ RowsAt 1 u64V W A l ∧ (∀ o ∈ l, o < 18446744073709551616) ∧ l.length ≤ c ∧ c ≤ maxLen := by
  obtain ⟨a0, len0, cap0, rfl⟩ := okWide_slice Try.underlying45 hval
  obtain ⟨fuel, hf⟩ := h
  rcases Deep.open_slice Try.underlying45 hf with ⟨hcs, hx⟩ | ⟨a, len, cap, m, n, D, Pl, hcs, _, hl, hm, hmm, hx, hi⟩
  · simp only [Value.cells, List.cons.injEq, and_true] at hcs
    injection hcs with h1 h2 h3
    subst h1; subst h2; subst h3
    exact ⟨[], none, 0, rfl, (fun h => by cases h), (fun o h => by cases h), Nat.le_refl _, Nat.zero_le _⟩
  · simp only [Value.cells, List.cons.injEq, and_true] at hcs
    injection hcs with h1 h2 h3
    subst h1; subst h2; subst h3
    have hlm : len0 ≤ m := by rw [hmm]; split <;> omega
    have key : ∀ i, i < len0 → ∃ o : Nat, (o < 18446744073709551616) ∧ (a.add (i * 1)).block < W.heap.size ∧ ∀ j, j < 1 → W.cell? ((a.add (i * 1)).add j) = (u64V o)[j]? := fun i hi0 => by
      obtain ⟨cs', hc, ht⟩ := hi i (by omega)
      rw [Try.cellsU64] at hc
      obtain ⟨_, hcl, hat⟩ := World.cells?_some hc
      match cs', hcl with
      | [c0], _ =>
        obtain ⟨x, e0, _, w0⟩ := DataW.trod_int Try.underlying31 ht
        obtain ⟨o, rfl⟩ := int_u64 w0
        cases e0
        exact ⟨o.toNat, o.isLt, block_lt_of_cell (a := (a.add (i * 1))) (by have := hat 0 (by decide); simpa [Addr.add] using this), hat⟩
    obtain ⟨l, hll, hp⟩ := rows_list key
    subst hll
    exact ⟨l, some a, cap0, rfl, rowsAt_of (n := 1) (cv := u64V) (by decide) (fun o => rfl) (fun i o ho => (hp i o ho).2), fun o ho => (by
      obtain ⟨i, hi', rfl⟩ := List.mem_iff_getElem.1 ho
      exact (hp i l[i] (List.getElem?_eq_getElem hi')).1), hl, hm⟩

end Go.Proofs.Ythmpjoiifglbjaa

/- Lists of ops in memory: no statement is proved here. -/
import Derived.Test.YthmpjoiifglbjaaGreatPower
import Derived.Test.YthmpjoiifglbjaaGreatInts
namespace Go.Proofs.YthmpjoiifglbjaaGreat
open Go.RowKit
set_option linter.unusedVariables false

def opV (o : PwOp) : List Value := [.int .i64 o.kind, .int .i64 o.bank, .int .i64 o.q, .string o.d]
/-- A slice (its address) holds these ops, below the heap's end. -/
def OpsAt (W : World) (A : Option Addr) (l : List PwOp) : Prop :=
  0 < l.length → ∃ g off, A = some ⟨g, off, none⟩ ∧ g < W.heap.size ∧ ∀ k o, l[k]? = some o →
    W.cell? ⟨g, off + k * 4, none⟩ = some (.int .i64 o.kind) ∧ W.cell? ⟨g, off + k * 4 + 1, none⟩ = some (.int .i64 o.bank) ∧ W.cell? ⟨g, off + k * 4 + 2, none⟩ = some (.int .i64 o.q) ∧ W.cell? ⟨g, off + k * 4 + 3, none⟩ = some (.string o.d)
theorem OpsAt.seq {W W' : World} {A : Option Addr} {l : List PwOp} (h : OpsAt W A l) (k : Below W.heap.size W W') : OpsAt W' A l := fun hn => by
  obtain ⟨g, off, e, hg, hc⟩ := h hn
  refine ⟨g, off, e, Nat.lt_of_lt_of_le hg k.size, fun i o ho => ?_⟩
  obtain ⟨a, b, c, d⟩ := hc i o ho
  exact ⟨(k.cell (p := ⟨g, _, none⟩) hg).trans a, (k.cell (p := ⟨g, _, none⟩) hg).trans b, (k.cell (p := ⟨g, _, none⟩) hg).trans c, (k.cell (p := ⟨g, _, none⟩) hg).trans d⟩
theorem OpsAt.alloc {W : World} {A : Option Addr} {l : List PwOp} (h : OpsAt W A l) (o : Obj) : OpsAt (W.alloc o) A l := h.seq ((Below.refl _ W).alloc (Nat.le_refl _) o)
theorem OpsAt.take {W : World} {A : Option Addr} {l : List PwOp} (h : OpsAt W A l) (n : Nat) : OpsAt W A (l.take n) := fun hn => by
  have hn' : 0 < l.length := by rw [List.length_take] at hn; omega
  obtain ⟨g, off, e, hg, hc⟩ := h hn'
  refine ⟨g, off, e, hg, fun i o ho => hc i o ?_⟩
  rw [List.getElem?_take] at ho
  by_cases hi : i < n
  · rwa [if_pos hi] at ho
  · rw [if_neg hi] at ho; cases ho
/-- A literal of one op. -/
theorem OpsAt.one (W : World) (t : TypeId) (o : PwOp) : OpsAt (W.alloc (.cells #[.int .i64 o.kind, .int .i64 o.bank, .int .i64 o.q, .string o.d] t)) (some ⟨W.heap.size, 0, none⟩) [o] := fun _ => by
  refine ⟨_, _, rfl, by simp, fun k o' ho => ?_⟩
  match k, ho with
  | 0, ho =>
    simp only [List.getElem?_cons_zero, Option.some.injEq] at ho
    subst ho
    refine ⟨?_, ?_, ?_, ?_⟩
    all_goals rw [cell_of_row _ W.heap.size _ _ _ (0, 0) (World.alloc_heap_new W _)]; rfl
theorem flat_op (l : List PwOp) (k i : Nat) (o : PwOp) (h : l[k]? = some o) (hi : i < 4) : (l.flatMap opV)[k * 4 + i]? = (opV o)[i]? := by
  induction l generalizing k with
  | nil => cases h
  | cons a l ih =>
    rw [List.flatMap_cons]
    cases k with
    | zero =>
      simp only [List.getElem?_cons_zero, Option.some.injEq] at h
      subst h
      rw [List.getElem?_append_left (by simp [opV]; omega)]
      congr 1; omega
    | succ k =>
      rw [List.getElem?_append_right (by simp [opV]; omega)]
      have := ih k (by simpa using h)
      rw [← this]
      congr 1
      simp [opV]; omega
/-- A literal of ops. -/
theorem OpsAt.lit (W : World) (t : TypeId) (l : List PwOp) : OpsAt (W.alloc (.cells (l.flatMap opV).toArray t)) (some ⟨W.heap.size, 0, none⟩) l := fun _ => by
  refine ⟨_, _, rfl, by simp, fun k o ho => ?_⟩
  have hc : ∀ i, i < 4 → (W.alloc (.cells (l.flatMap opV).toArray t)).cell? ⟨W.heap.size, 0 + k * 4 + i, none⟩ = (opV o)[i]? := fun i hi => by
    rw [cell_of_row _ W.heap.size _ _ _ (0, 0) (World.alloc_heap_new W _), Nat.zero_add]
    simpa using flat_op l k i o ho hi
  exact ⟨hc 0 (by decide), hc 1 (by decide), hc 2 (by decide), hc 3 (by decide)⟩
end Go.Proofs.YthmpjoiifglbjaaGreat

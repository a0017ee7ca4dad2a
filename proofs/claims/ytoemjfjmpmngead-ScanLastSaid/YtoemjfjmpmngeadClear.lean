/- The program's own calls of layer 1: what each hands back, at all texts: contracts only. -/
import Derived.Test.YtoemjfjmpmngeadIter
import Derived.Laws.OwnMore
namespace Go.Proofs.Ytoemjfjmpmngead
open Go.RowKit Go.Shelf
set_option linter.unusedVariables false
attribute [local go_sem] b8_and b8_or b8_andNot gdI_255 gdI_0 b8_xorAll Oper.semAt_some

theorem wpListIn_make_full {F : Fence} {n : Nat} {P : Program} (w : World) {ops : Array Oper} {rest : List Oper} {o : Oper} {a : Act} {Q : Exit → Act → World → Prop}
    (hg : o.guard = none) (l c : Operand) (t : TypeId) (hop : o.op = Op.makeSlice t l c)
    (base : Nat) (e : TypeId) (i : TypeInfo) (z : Value) (size : Nat) (h1 : P.underlying t = some (.slice e)) (h2 : P.info? e = some i) (h3 : i.zero = some z) (h4 : i.size = size)
    (kl kc : IntKind) (L C : Int) (m : Nat) (hl : a.eval l = .int kl L) (hc : a.eval c = .int kc C) (hL : L = (m : Int)) (hC : C = (m : Int)) (b2 : i.bytes * m ≤ 281474976710656) (b3 : m ≤ maxLen) (b4 : base ≤ w.heap.size)
    (hK : ∀ w', w'.ownsRow base e size (.slice (some ⟨w.heap.size, 0, none⟩) m m) m (madeCells z.cells (m * size)).toList → w.grownBy w' none → wpListIn F n P ops Q rest (a.put o.dst (.slice (some ⟨w.heap.size, 0, none⟩) m m)) w') :
    wpListIn F n P ops Q (o :: rest) a w := by
  refine wpListIn_plain hg fun K hK' => ?_
  obtain ⟨w', hrun, r1, r2⟩ := run_make_full (P := P) w base t e i z size h1 h2 h3 h4 kl kc m b2 b3 b4
  subst hL
  subst hC
  unfold Oper.wpIn
  refine ⟨?_, ?_⟩
  · simp [Oper.about, hop]
  · rw [Oper.semAt_plain F _ _ (by rw [hop]; intro c hc'; cases hc')]
    simp [execOp, hop, hl, hc, hrun, Result.andThen]
    exact hK' _ _ (hK w' r1 r2)

/-- A block of cells lies on where the steps turn blocks alone that are no cells. -/
theorem cells_own {W W' : World} {row : Option Nat} {B : Nat} {cs : Array Value} {t : TypeId} {fr : Nat × Nat} (h : W.heap[B]? = some (.cells cs t fr)) (hg : W.grownBy W' row)
    (hr : ∀ r, row = some r → ∃ o : Obj, W.heap[r]? = some o ∧ o.isCells = false) : W'.heap[B]? = some (.cells cs t fr) := by
  refine (hg.block B (Array.getElem?_eq_some_iff.1 h).1 (fun e => ?_)).trans h
  obtain ⟨o, ho, hc⟩ := hr B e.symm
  rw [h] at ho; cases ho; cases hc

/-- A row that is filled place by place: what it holds when the places of pre have come. -/
def fillL (f : Nat → UInt8) (n : Nat) (pre : List (Fin n)) : List UInt8 := (List.range n).map fun j => if pre.any (fun x => x.1 == j) then f j else 0
theorem fillL_length (f : Nat → UInt8) (n : Nat) (pre : List (Fin n)) : (fillL f n pre).length = n := by simp [fillL]
theorem fillL_nil (f : Nat → UInt8) (n : Nat) : fillL f n [] = List.replicate n 0 := by
  apply List.ext_getElem
  · simp [fillL]
  · intro i h1 h2; simp [fillL]
theorem fillL_snoc (f : Nat → UInt8) (n : Nat) (pre : List (Fin n)) (x : Fin n) : fillL f n (pre ++ [x]) = (fillL f n pre).set x.1 (f x.1) := by
  apply List.ext_getElem
  · simp [fillL]
  · intro i h1 h2
    rw [List.getElem_set]
    by_cases h : x.1 = i
    · subst h; simp [fillL]
    · rw [if_neg h]; simp [fillL, h]
theorem fillL_all (f : Nat → UInt8) (n : Nat) : fillL f n (List.finRange n) = upto f n := by
  apply List.ext_getElem
  · simp [fillL, upto]
  · intro i h1 h2
    have hi : i < n := by simpa [fillL] using h1
    have : (List.finRange n).any (fun x => x.1 == i) = true := List.any_eq_true.2 ⟨⟨i, hi⟩, List.mem_finRange _, by simp⟩
    simp only [fillL, upto, List.getElem_map, List.getElem_range, this, if_true]

end Go.Proofs.Ytoemjfjmpmngead

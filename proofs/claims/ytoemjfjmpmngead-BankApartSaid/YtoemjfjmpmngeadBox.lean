/- A variable that lies in a block of its own: a struct's cells; how it stays behind calls, draws and new blocks: no statement is proved here. -/
import Derived.Test.YtoemjfjmpmngeadInts
import Derived.Test.YtoemjfjmpmngeadBytes
import Derived.Laws.Rows
import Derived.Below
import Derived.Deep.Draws
namespace Go.Proofs.Ytoemjfjmpmngead
open Go.RowKit
set_option linter.unusedVariables false

/-- Block B holds just these cells. -/
def Box (t : TypeId) (W : World) (B : Nat) (vs : List Value) : Prop := W.heap[B]? = some (.cells vs.toArray t (0, 0))
theorem Box.lt {t : TypeId} {W : World} {B : Nat} {vs : List Value} (h : Box t W B vs) : B < W.heap.size := (Array.getElem?_eq_some_iff.1 h).1
theorem Box.new (t : TypeId) (W : World) (vs : List Value) : Box t (W.alloc (.cells vs.toArray t)) W.heap.size vs := World.alloc_heap_new W _
theorem Box.seq {t : TypeId} {W W' : World} {B : Nat} {vs : List Value} (h : Box t W B vs) (k : Below W.heap.size W W') : Box t W' B vs := (k.block B h.lt).trans h
theorem Box.below {t : TypeId} {W W' : World} {B n : Nat} {vs : List Value} (h : Box t W B vs) (k : Below n W W') (hn : B < n) : Box t W' B vs := (k.block B hn).trans h
theorem Box.alloc {t : TypeId} {W : World} {B : Nat} {vs : List Value} (h : Box t W B vs) (o : Obj) : Box t (W.alloc o) B vs := h.seq ((Below.refl _ W).alloc (Nat.le_refl _) o)
theorem Box.drew {t : TypeId} {W : World} {B : Nat} {vs : List Value} (h : Box t W B vs) : Box t W.drew B vs := h
theorem Box.drewN {t : TypeId} {W : World} {B : Nat} {vs : List Value} (h : Box t W B vs) (n : Nat) : Box t (W.drewN n) B vs := h
theorem Box.cell {t : TypeId} {W : World} {B : Nat} {vs : List Value} (h : Box t W B vs) (i : Nat) {v : Value} (hv : vs[i]? = some v) : W.cell? ⟨B, i, none⟩ = some v := by
  rw [cell_of_row W B i _ _ (0, 0) h]; simpa using hv
theorem Box.frozen {t : TypeId} {W : World} {B : Nat} {vs : List Value} (h : Box t W B vs) (i : Nat) : W.frozen? ⟨B, i, none⟩ = false := frozen_of_row W B i _ _ h
theorem Box.set {t : TypeId} {W : World} {B : Nat} {vs : List Value} (h : Box t W B vs) (i : Nat) (v : Value) : Box t (W.setCell ⟨B, i, none⟩ v) B (vs.set i v) := by
  have := heap_setCell_same W B i _ _ v h
  simpa [Box] using this
theorem Box.other {t : TypeId} {W : World} {B C : Nat} {vs : List Value} (h : Box t W B vs) (hne : C ≠ B) (i : Nat) (v : Value) : Box t (W.setCell ⟨C, i, none⟩ v) B vs :=
  (heap_setCell_other W ⟨C, i, none⟩ B v (fun e => hne e.symm)).trans h
end Go.Proofs.Ytoemjfjmpmngead

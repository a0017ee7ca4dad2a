/- Slices of whole numbers in memory that are read: no statement is proved here. -/
import Derived.Test.YtokfglgghdeakaaInts
import Derived.Deep.Draws
namespace Go.Proofs.Ytokfglgghdeakaa
open Go.RowKit
set_option linter.unusedVariables false

/-- A slice (its address) holds these numbers, below the heap's end. -/
def IntsAt (W : World) (A : Option Addr) (l : List Int) : Prop :=
  0 < l.length → ∃ g off, A = some ⟨g, off, none⟩ ∧ g < W.heap.size ∧ ∀ (k : Nat) v, l[k]? = some v → W.cell? ⟨g, off + k, none⟩ = some (.int .i64 v)
theorem IntsAt.seq {W W' : World} {A : Option Addr} {l : List Int} (h : IntsAt W A l) (k : Below W.heap.size W W') : IntsAt W' A l := fun hn => by
  obtain ⟨g, off, e, hg, hc⟩ := h hn
  exact ⟨g, off, e, Nat.lt_of_lt_of_le hg k.size, fun i v hv => (k.cell (p := ⟨g, _, none⟩) hg).trans (hc i v hv)⟩
theorem IntsAt.alloc {W : World} {A : Option Addr} {l : List Int} (h : IntsAt W A l) (o : Obj) : IntsAt (W.alloc o) A l := h.seq ((Below.refl _ W).alloc (Nat.le_refl _) o)
theorem IntsAt.drew {W : World} {A : Option Addr} {l : List Int} (h : IntsAt W A l) : IntsAt W.drew A l := h
theorem IntsAt.drewN {W : World} {A : Option Addr} {l : List Int} (h : IntsAt W A l) (n : Nat) : IntsAt (W.drewN n) A l := h
theorem IntsAt.at {W : World} {A : Option Addr} {l : List Int} (h : IntsAt W A l) {k : Nat} {v : Int} (hk : l[k]? = some v) : ∃ g off, A = some ⟨g, off, none⟩ ∧ W.cell? ⟨g, off + k, none⟩ = some (.int .i64 v) := by
  obtain ⟨g, off, e, _, hc⟩ := h (by have := (List.getElem?_eq_some_iff.1 hk).1; omega)
  exact ⟨g, off, e, hc k v hk⟩
end Go.Proofs.Ytokfglgghdeakaa

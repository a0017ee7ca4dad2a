/- Slices of whole numbers that a function has made, cell by cell: read as any others: no statement is proved here. -/
import Derived.Test.YtokfglgghdeakaaRows
import Derived.Test.YtokfglgghdeakaaIntsAt
import Derived.Laws.AppendOwn
namespace Go.Proofs.Ytokfglgghdeakaa
open Go.RowKit
set_option linter.unusedVariables false

theorem ints_of_row {W : World} {base : Nat} {e : TypeId} {v : Value} {l : List Int} (h : W.ownsRow base e 1 v l.length (l.map (Value.int .i64))) : ∃ A c, v = .slice A l.length c ∧ IntsAt W A l ∧ (A = none → c = 0) := by
  rcases h.2 with ⟨rfl, h0⟩ | ⟨g, cap, cur, rfl, _, hg, _⟩
  · exact ⟨none, 0, by rw [h0], fun hn => by omega, fun _ => rfl⟩
  · refine ⟨some ⟨g, 0, none⟩, cap, rfl, fun _ => ⟨g, 0, rfl, (Array.getElem?_eq_some_iff.1 hg).1, fun k v hk => ?_⟩, fun e => by cases e⟩
    have := h.cells (g := g) rfl k (.int .i64 v) (by rw [List.getElem?_map, hk]; rfl)
    rw [show (⟨g, 0 + k, none⟩ : Addr) = (⟨g, 0, none⟩ : Addr).add k from by simp [Addr.add]]; exact this
theorem info_int0 : (Try.prog.info? 3).map (fun i => (i.zero, i.size, i.bytes)) = some (some (.int .i64 0), 1, 8) := by kernel_rfl
end Go.Proofs.Ytokfglgghdeakaa

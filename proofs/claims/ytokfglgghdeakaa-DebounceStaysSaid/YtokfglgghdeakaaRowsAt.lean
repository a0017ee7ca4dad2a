/- Slices in memory, by what each element is spelled as: no statement is proved here. -/
import Derived.Test.YtokfglgghdeakaaInts
import Derived.Deep.Draws
namespace Go.Proofs.Ytokfglgghdeakaa
open Go.RowKit
set_option linter.unusedVariables false

/-- A slice (its address) holds these elements, n cells each, below the heap's end. -/
def RowsAt {α : Type} (n : Nat) (cv : α → List Value) (W : World) (A : Option Addr) (l : List α) : Prop :=
  0 < l.length → ∃ g off, A = some ⟨g, off, none⟩ ∧ g < W.heap.size ∧ ∀ (k : Nat) o, l[k]? = some o → ∀ j, j < n → W.cell? ⟨g, off + k * n + j, none⟩ = (cv o)[j]?
theorem RowsAt.seq {α : Type} {n : Nat} {cv : α → List Value} {W W' : World} {A : Option Addr} {l : List α} (h : RowsAt n cv W A l) (k : Below W.heap.size W W') : RowsAt n cv W' A l := fun hn => by
  obtain ⟨g, off, e, hg, hc⟩ := h hn
  exact ⟨g, off, e, Nat.lt_of_lt_of_le hg k.size, fun i v hv j hj => (k.cell (p := ⟨g, _, none⟩) hg).trans (hc i v hv j hj)⟩
theorem RowsAt.alloc {α : Type} {n : Nat} {cv : α → List Value} {W : World} {A : Option Addr} {l : List α} (h : RowsAt n cv W A l) (o : Obj) : RowsAt n cv (W.alloc o) A l := h.seq ((Below.refl _ W).alloc (Nat.le_refl _) o)
theorem RowsAt.drew {α : Type} {n : Nat} {cv : α → List Value} {W : World} {A : Option Addr} {l : List α} (h : RowsAt n cv W A l) : RowsAt n cv W.drew A l := h
theorem RowsAt.drewN {α : Type} {n : Nat} {cv : α → List Value} {W : World} {A : Option Addr} {l : List α} (h : RowsAt n cv W A l) (q : Nat) : RowsAt n cv (W.drewN q) A l := h
theorem RowsAt.at {α : Type} {n : Nat} {cv : α → List Value} {W : World} {A : Option Addr} {l : List α} (h : RowsAt n cv W A l) {k : Nat} {o : α} (hk : l[k]? = some o) : ∃ g off, A = some ⟨g, off, none⟩ ∧ g < W.heap.size ∧ ∀ j, j < n → W.cell? ⟨g, off + k * n + j, none⟩ = (cv o)[j]? := by
  obtain ⟨g, off, e, hg, hc⟩ := h (by have := (List.getElem?_eq_some_iff.1 hk).1; omega)
  exact ⟨g, off, e, hg, hc k o hk⟩
theorem rows_list {α : Type} {p : Nat → α → Prop} {n : Nat} (h : ∀ i, i < n → ∃ a, p i a) : ∃ l : List α, l.length = n ∧ ∀ i a, l[i]? = some a → p i a := by
  induction n with
  | zero => exact ⟨[], rfl, fun i a h => by cases h⟩
  | succ n ih =>
    obtain ⟨l, hl, hp⟩ := ih (fun i hi => h i (by omega))
    obtain ⟨a, ha⟩ := h n (by omega)
    refine ⟨l ++ [a], by simp [hl], fun i b hb => ?_⟩
    rcases Nat.lt_trichotomy i n with k | k | k
    · rw [List.getElem?_append_left (by omega)] at hb; exact hp i b hb
    · subst k
      rw [List.getElem?_append_right (by omega), hl, Nat.sub_self] at hb
      cases hb; exact ha
    · rw [List.getElem?_eq_none (by simp; omega)] at hb; cases hb
theorem rowsAt_of {α : Type} {n : Nat} (hn : 0 < n) {cv : α → List Value} (hcv : ∀ o, (cv o).length = n) {W : World} {a : Addr} {l : List α}
    (hp : ∀ (i : Nat) o, l[i]? = some o → (a.add (i * n)).block < W.heap.size ∧ ∀ j, j < n → W.cell? ((a.add (i * n)).add j) = (cv o)[j]?) : RowsAt n cv W (some a) l := fun hl => by
  obtain ⟨b, off, spot⟩ := a
  have h0 := hp 0 l[0] (List.getElem?_eq_getElem hl)
  have hspot : spot = none := by
    have h1 := h0.2 0 hn
    have h2 : ∃ v, (cv l[0])[0]? = some v := ⟨_, List.getElem?_eq_getElem (by rw [hcv]; exact hn)⟩
    obtain ⟨v, hv⟩ := h2
    rw [hv] at h1
    simpa [Addr.add] using World.cell?_spot (by simpa [Addr.add] using h1)
  subst hspot
  refine ⟨b, off, rfl, by simpa [Addr.add] using h0.1, fun k o ho j hj => ?_⟩
  have e : ((⟨b, off, none⟩ : Addr).add (k * n)).add j = ⟨b, off + k * n + j, none⟩ := by unfold Addr.add; split <;> split <;> simp_all
  rw [← e]
  exact (hp k o ho).2 j hj
end Go.Proofs.Ytokfglgghdeakaa

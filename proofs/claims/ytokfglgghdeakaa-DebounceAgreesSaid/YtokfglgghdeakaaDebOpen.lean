/- A count, and votes, that are handed in, opened: no statement is proved here. -/
import Derived.Test.YtokfglgghdeakaaDebPlain
import Derived.Test.YtokfglgghdeakaaRowsAt
import Derived.Test.YtokfglgghdeakaaIntsAt
import Derived.Test.YtokfglgghdeakaaLaid
import Derived.Test.YtokfglgghdeakaaBs
import Derived.Lib.SmallJoins
import Derived.Deep.Slices
import Derived.OpenShut
import Derived.ChangeMaps5
namespace Go.Proofs.Ytokfglgghdeakaa
open Go.ChangeShapes Go.WideShapes Go.ChangeAt Go.RowKit Go.ChangeMaps Go.Joins
set_option linter.unusedVariables false

def intV (d : Int) : List Value := [.int .i64 d]
theorem ints_of_rows {W : World} {A : Option Addr} {l : List Int} (h : RowsAt 1 intV W A l) : IntsAt W A l := fun hn => by
  obtain ⟨g, off, e, hg, hc⟩ := h hn
  exact ⟨g, off, e, hg, fun k v hk => by have := hc k v hk 0 (by decide); simpa [intV] using this⟩
theorem ints_of_box {t : TypeId} {W : World} {B : Nat} {l : List Int} (h : Box t W B (l.map (Value.int .i64))) : IntsAt W (some ⟨B, 0, none⟩) l := fun _ =>
  ⟨B, 0, rfl, h.lt, fun k v hk => by rw [Nat.zero_add]; exact h.cell k (by rw [List.getElem?_map, hk]; rfl)⟩
theorem IntsAt.hop {W : World} {A : Option Addr} {l : List Int} (h : IntsAt W A l) (k : Nat) (v : Int) (hk : l[k]? = some v) : ∃ g off, A = some ⟨g, off, none⟩ ∧ ∀ V : World, Below W.heap.size W V → V.cell? ⟨g, off + k, none⟩ = some (.int .i64 v) := by
  obtain ⟨g, off, e, hg, hc⟩ := h (by have := (List.getElem?_eq_some_iff.1 hk).1; omega)
  exact ⟨g, off, e, fun V hV => (hV.cell (p := ⟨g, _, none⟩) hg).trans (hc k v hk)⟩

theorem Try.cellsCt : Try.prog.cellsOf 23 = 2 := by kernel_rfl

set_option maxRecDepth 100000 in
/-- The cells of one debounce.Count, read. -/
theorem ct_of_cells {H : Type} {enc : TypeId × Value → H} {W : World} {n : Nat} {cs : List Value} {y : DataW H × List MemPlace} (hl : cs.length = 2)
    (h : DataW.trod enc Try.prog W 0 (fun _ => true) true n 23 cs = some y) : ∃ o : Ct, cs = ctV o ∧ o.ok := by
  match cs, hl with
  | [c0, c1], _ =>
    obtain ⟨xs, n, _, hx, _, hlen, hg⟩ := DataW.trod_struct Try.underlying23 h
    match xs, hlen with
    | [y0, y1], _ =>
      have g0 : DataW.trod enc Try.prog W 0 (fun _ => true) true n 3 [c0] = some y0 := by have := hg 0 _ rfl; simpa [Value.cells, Try.cellsI] using this
      have g1 : DataW.trod enc Try.prog W 0 (fun _ => true) true n 3 [c1] = some y1 := by have := hg 1 _ rfl; simpa [Value.cells, Try.cellsI] using this
      obtain ⟨n0, e0, _, w0⟩ := DataW.trod_int Try.underlying3 g0
      obtain ⟨n1, e1, _, w1⟩ := DataW.trod_int Try.underlying3 g1
      cases e0; cases e1
      exact ⟨⟨n0, n1⟩, rfl, ⟨int_i64 w0, int_i64 w1⟩⟩

set_option maxRecDepth 100000 in
theorem open_ct {H : Type} {enc : TypeId × Value → H} {W : World} {base : Nat} {v : Value} {d : DataW H} {p : List MemPlace}
    (hval : Value.okWide Try.prog W .any base 23 v) (h : DataW.Trod enc Try.prog W 0 (fun _ => true) true 23 v d p) :
    ∃ o : Ct, v = .agg #[.int .i64 o.vote, .int .i64 o.n] ∧ o.ok := by
  obtain ⟨cs, rfl, hsz⟩ := okWide_struct Try.underlying23 hval
  obtain ⟨l⟩ := cs
  obtain ⟨fuel, hf⟩ := h
  obtain ⟨o, e, hok⟩ := ct_of_cells (hsz.trans Try.cellsCt) hf
  exact ⟨o, by rw [show l = ctV o from e]; rfl, hok⟩

set_option maxRecDepth 100000 in
theorem open_ints {H : Type} {enc : TypeId × Value → H} {W : World} {base : Nat} {v : Value} {d : DataW H} {p : List MemPlace}
    (hval : Value.okWide Try.prog W .any base 24 v) (h : DataW.Trod enc Try.prog W 0 (fun _ => true) true 24 v d p) :
    ∃ (l : List Int) (A : Option Addr) (c : Nat), v = .slice A l.length c ∧ RowsAt 1 intV W A l ∧ (∀ o ∈ l, -9223372036854775808 ≤ o ∧ o ≤ 9223372036854775807) ∧ l.length ≤ c ∧ c ≤ maxLen := by
  obtain ⟨a0, len0, cap0, rfl⟩ := okWide_slice Try.underlying24 hval
  obtain ⟨fuel, hf⟩ := h
  rcases Deep.open_slice Try.underlying24 hf with ⟨hcs, hx⟩ | ⟨a, len, cap, m, n, D, Pl, hcs, _, hl, hm, hmm, hx, hi⟩
  · simp only [Value.cells, List.cons.injEq, and_true] at hcs
    injection hcs with h1 h2 h3
    subst h1; subst h2; subst h3
    exact ⟨[], none, 0, rfl, (fun h => by cases h), (fun o h => by cases h), Nat.le_refl _, Nat.zero_le _⟩
  · simp only [Value.cells, List.cons.injEq, and_true] at hcs
    injection hcs with h1 h2 h3
    subst h1; subst h2; subst h3
    have hlm : len0 ≤ m := by rw [hmm]; split <;> omega
    have key : ∀ i, i < len0 → ∃ o : Int, (-9223372036854775808 ≤ o ∧ o ≤ 9223372036854775807) ∧ (a.add (i * 1)).block < W.heap.size ∧ ∀ j, j < 1 → W.cell? ((a.add (i * 1)).add j) = (intV o)[j]? := fun i hi0 => by
      obtain ⟨cs', hc, ht⟩ := hi i (by omega)
      rw [Try.cellsI] at hc
      obtain ⟨_, hcl, hat⟩ := World.cells?_some hc
      match cs', hcl with
      | [c0], _ =>
        obtain ⟨x, e0, _, w0⟩ := DataW.trod_int Try.underlying3 ht
        cases e0
        exact ⟨x, int_i64 w0, block_lt_of_cell (a := (a.add (i * 1))) (by have := hat 0 (by decide); simpa [Addr.add] using this), hat⟩
    obtain ⟨l, hll, hp⟩ := rows_list key
    subst hll
    exact ⟨l, some a, cap0, rfl, rowsAt_of (n := 1) (cv := intV) (by decide) (fun o => rfl) (fun i o ho => (hp i o ho).2), fun o ho => (by
      obtain ⟨i, hi', rfl⟩ := List.mem_iff_getElem.1 ho
      exact (hp i l[i] (List.getElem?_eq_getElem hi')).1), hl, hm⟩

end Go.Proofs.Ytokfglgghdeakaa

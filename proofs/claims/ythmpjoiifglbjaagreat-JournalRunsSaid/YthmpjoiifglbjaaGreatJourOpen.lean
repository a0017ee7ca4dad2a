/- Steps of a journal that are handed in, opened to their parts: no statement is proved here. -/
import Derived.Test.YthmpjoiifglbjaaGreatInts
import Derived.Deep.Draws
import Derived.Test.YthmpjoiifglbjaaGreatRows
import Derived.ProofKit
import Derived.OpenShut
import Derived.ChangeMaps5
import Derived.Carry
import Derived.Test.YthmpjoiifglbjaaGreatJourFit
import Derived.Test.YthmpjoiifglbjaaGreatBox
import Derived.Lib.SmallJoins
import Derived.Deep.Slices
namespace Go.Proofs.YthmpjoiifglbjaaGreat
open Go.RowKit
set_option linter.unusedVariables false

/-- A slice (its address) holds these elements, n cells each, below the heap's end. -/
def RowsAt {α : Type} (n : Nat) (cv : α → List Value) (W : World) (A : Option Addr) (l : List α) : Prop :=
  0 < l.length → ∃ g off, A = some ⟨g, off, none⟩ ∧ g < W.heap.size ∧ ∀ (k : Nat) o, l[k]? = some o → ∀ j, j < n → W.cell? ⟨g, off + k * n + j, none⟩ = (cv o)[j]?
theorem RowsAt.seq {α : Type} {n : Nat} {cv : α → List Value} {W W' : World} {A : Option Addr} {l : List α} (h : RowsAt n cv W A l) (k : Below W.heap.size W W') : RowsAt n cv W' A l := fun hn => by
  obtain ⟨g, off, e, hg, hc⟩ := h hn
  exact ⟨g, off, e, Nat.lt_of_lt_of_le hg k.size, fun i v hv j hj => (k.cell (p := ⟨g, _, none⟩) hg).trans (hc i v hv j hj)⟩
theorem RowsAt.alloc {α : Type} {n : Nat} {cv : α → List Value} {W : World} {A : Option Addr} {l : List α} (h : RowsAt n cv W A l) (o : Obj) : RowsAt n cv (W.alloc o) A l := h.seq ((Below.refl _ W).alloc (Nat.le_refl _) o)
theorem RowsAt.drew {α : Type} {n : Nat} {cv : α → List Value} {W : World} {A : Option Addr} {l : List α} (h : RowsAt n cv W A l) : RowsAt n cv W.drew A l := h
theorem RowsAt.drewN {α : Type} {n : Nat} {cv : α → List Value} {W : World} {A : Option Addr} {l : List α} (h : RowsAt n cv W A l) (q : Nat) : RowsAt n cv (W.drewN q) A l := h
theorem RowsAt.at {α : Type} {n : Nat} {cv : α → List Value} {W : World} {A : Option Addr} {l : List α} (h : RowsAt n cv W A l) {k : Nat} {o : α} (hk : l[k]? = some o) : ∃ g off, A = some ⟨g, off, none⟩ ∧ g < W.heap.size ∧ ∀ j, j < n → W.cell? ⟨g, off + k * n + j, none⟩ = (cv o)[j]? := by
  obtain ⟨g, off, e, hg, hc⟩ := h (by have := (List.getElem?_eq_some_iff.1 hk).1; omega)
  exact ⟨g, off, e, hg, hc k o hk⟩
theorem rows_list {α : Type} {p : Nat → α → Prop} {n : Nat} (h : ∀ i, i < n → ∃ a, p i a) : ∃ l : List α, l.length = n ∧ ∀ i a, l[i]? = some a → p i a := by
  induction n with
  | zero => exact ⟨[], rfl, fun i a h => by cases h⟩
  | succ n ih =>
    obtain ⟨l, hl, hp⟩ := ih (fun i hi => h i (by omega))
    obtain ⟨a, ha⟩ := h n (by omega)
    refine ⟨l ++ [a], by simp [hl], fun i b hb => ?_⟩
    rcases Nat.lt_trichotomy i n with k | k | k
    · rw [List.getElem?_append_left (by omega)] at hb; exact hp i b hb
    · subst k
      rw [List.getElem?_append_right (by omega), hl, Nat.sub_self] at hb
      cases hb; exact ha
    · rw [List.getElem?_eq_none (by simp; omega)] at hb; cases hb
theorem rowsAt_of {α : Type} {n : Nat} (hn : 0 < n) {cv : α → List Value} (hcv : ∀ o, (cv o).length = n) {W : World} {a : Addr} {l : List α}
    (hp : ∀ (i : Nat) o, l[i]? = some o → (a.add (i * n)).block < W.heap.size ∧ ∀ j, j < n → W.cell? ((a.add (i * n)).add j) = (cv o)[j]?) : RowsAt n cv W (some a) l := fun hl => by
  obtain ⟨b, off, spot⟩ := a
  have h0 := hp 0 l[0] (List.getElem?_eq_getElem hl)
  have hspot : spot = none := by
    have h1 := h0.2 0 hn
    have h2 : ∃ v, (cv l[0])[0]? = some v := ⟨_, List.getElem?_eq_getElem (by rw [hcv]; exact hn)⟩
    obtain ⟨v, hv⟩ := h2
    rw [hv] at h1
    simpa [Addr.add] using World.cell?_spot (by simpa [Addr.add] using h1)
  subst hspot
  refine ⟨b, off, rfl, by simpa [Addr.add] using h0.1, fun k o ho j hj => ?_⟩
  have e : ((⟨b, off, none⟩ : Addr).add (k * n)).add j = ⟨b, off + k * n + j, none⟩ := by unfold Addr.add; split <;> split <;> simp_all
  rw [← e]
  exact (hp k o ho).2 j hj
end Go.Proofs.YthmpjoiifglbjaaGreat
namespace Go.Proofs.YthmpjoiifglbjaaGreat
open Go.ChangeShapes Go.WideShapes Go.ChangeAt Go.RowKit Go.ChangeMaps

theorem Tryz.laidOut : laidOutB Tryz.prog = true := by kernel_rfl

theorem Tryz.cellsS : Tryz.prog.cellsOf 9 = 1 := by kernel_rfl

theorem Tryz.cellsI : Tryz.prog.cellsOf 3 = 1 := by kernel_rfl

theorem Tryz.cellsU64 : Tryz.prog.cellsOf 26 = 1 := by kernel_rfl
end Go.Proofs.YthmpjoiifglbjaaGreat
namespace Go.Proofs.YthmpjoiifglbjaaGreat
open Go.ChangeShapes Go.WideShapes Go.ChangeAt Go.RowKit Go.ChangeMaps Go.Joins
set_option linter.unusedVariables false

def stpV (o : Stp) : List Value := [.int .u64 (o.data : Int), .int .i64 o.cut, .string o.mask]
theorem RowsAt.lit {α : Type} {n : Nat} (hn : 0 < n) {cv : α → List Value} (hcv : ∀ o, (cv o).length = n) (W : World) (t : TypeId) (l : List α) : RowsAt n cv (W.alloc (.cells (l.flatMap cv).toArray t)) (some ⟨W.heap.size, 0, none⟩) l := fun _ => by
  refine ⟨_, _, rfl, by simp, fun k o ho j hj => ?_⟩
  rw [cell_of_row _ W.heap.size _ _ _ (0, 0) (World.alloc_heap_new W _), Nat.zero_add]
  have flat : ∀ (l : List α) (k : Nat), l[k]? = some o → (l.flatMap cv)[k * n + j]? = (cv o)[j]? := fun l => by
    induction l with
    | nil => intro k h; cases h
    | cons a l ih =>
      intro k h
      rw [List.flatMap_cons]
      cases k with
      | zero =>
        simp only [List.getElem?_cons_zero, Option.some.injEq] at h
        subst h
        rw [List.getElem?_append_left (by rw [hcv]; omega)]
        congr 1; omega
      | succ k =>
        have e : (k + 1) * n = k * n + n := by rw [Nat.add_mul, Nat.one_mul]
        rw [List.getElem?_append_right (by rw [hcv]; omega), ← ih k (by simpa using h)]
        congr 1; rw [hcv]; omega
  simpa using flat l k ho
theorem RowsAt.hop {α : Type} {n : Nat} {cv : α → List Value} {W : World} {A : Option Addr} {l : List α} (h : RowsAt n cv W A l) (k : Nat) (o : α) (hk : l[k]? = some o) :
    ∃ g off, A = some ⟨g, off, none⟩ ∧ ∀ V : World, Below W.heap.size W V → ∀ j, j < n → V.cell? ⟨g, off + k * n + j, none⟩ = (cv o)[j]? := by
  obtain ⟨g, off, e, hg, hc⟩ := h.at hk
  exact ⟨g, off, e, fun V hV j hj => (hV.cell (p := ⟨g, _, none⟩) hg).trans (hc j hj)⟩

theorem Tryz.cellsStp : Tryz.prog.cellsOf 28 = 3 := by kernel_rfl

set_option maxRecDepth 100000 in
/-- The cells of one journal.Step, read. -/
theorem stp_of_cells {H : Type} {enc : TypeId × Value → H} {W : World} {n : Nat} {cs : List Value} {y : DataW H × List MemPlace} (hl : cs.length = 3)
    (h : DataW.trod enc Tryz.prog W 0 (fun _ => true) true n 28 cs = some y) : ∃ o : Stp, cs = stpV o ∧ o.ok := by
  match cs, hl with
  | [c0, c1, c2], _ =>
    obtain ⟨xs, n, _, hx, _, hlen, hg⟩ := DataW.trod_struct Tryz.underlying28 h
    match xs, hlen with
    | [y0, y1, y2], _ =>
      have g0 : DataW.trod enc Tryz.prog W 0 (fun _ => true) true n 26 [c0] = some y0 := by have := hg 0 _ rfl; simpa [Value.cells, Tryz.cellsI, Tryz.cellsS, Tryz.cellsU64] using this
      have g1 : DataW.trod enc Tryz.prog W 0 (fun _ => true) true n 3 [c1] = some y1 := by have := hg 1 _ rfl; simpa [Value.cells, Tryz.cellsI, Tryz.cellsS, Tryz.cellsU64] using this
      have g2 : DataW.trod enc Tryz.prog W 0 (fun _ => true) true n 9 [c2] = some y2 := by have := hg 2 _ rfl; simpa [Value.cells, Tryz.cellsI, Tryz.cellsS, Tryz.cellsU64] using this
      obtain ⟨n0, e0, _, w0⟩ := DataW.trod_int Tryz.underlying26 g0
      obtain ⟨v0, rfl⟩ := int_u64 w0
      obtain ⟨n1, e1, _, w1⟩ := DataW.trod_int Tryz.underlying3 g1
      obtain ⟨s2, e2, _, w2⟩ := DataW.trod_string Tryz.underlying9 g2
      cases e0; cases e1; cases e2
      exact ⟨⟨v0.toNat, n1, s2⟩, rfl, ⟨v0.isLt, int_i64 w1, w2⟩⟩

set_option maxRecDepth 100000 in
theorem open_stp {H : Type} {enc : TypeId × Value → H} {W : World} {base : Nat} {v : Value} {d : DataW H} {p : List MemPlace}
    (hval : Value.okWide Tryz.prog W .any base 28 v) (h : DataW.Trod enc Tryz.prog W 0 (fun _ => true) true 28 v d p) :
    ∃ o : Stp, v = .agg #[.int .u64 (o.data : Int), .int .i64 o.cut, .string o.mask] ∧ o.ok := by
  obtain ⟨cs, rfl, hsz⟩ := okWide_struct Tryz.underlying28 hval
  obtain ⟨l⟩ := cs
  obtain ⟨fuel, hf⟩ := h
  obtain ⟨o, e, hok⟩ := stp_of_cells (hsz.trans Tryz.cellsStp) hf
  exact ⟨o, by rw [show l = stpV o from e]; rfl, hok⟩

set_option maxRecDepth 100000 in
theorem open_stps {H : Type} {enc : TypeId × Value → H} {W : World} {base : Nat} {v : Value} {d : DataW H} {p : List MemPlace}
    (hval : Value.okWide Tryz.prog W .any base 30 v) (h : DataW.Trod enc Tryz.prog W 0 (fun _ => true) true 30 v d p) :
    ∃ (l : List Stp) (A : Option Addr) (c : Nat), v = .slice A l.length c ∧ RowsAt 3 stpV W A l ∧ (∀ o ∈ l, o.ok) ∧ l.length ≤ c ∧ c ≤ maxLen := by
  obtain ⟨a0, len0, cap0, rfl⟩ := okWide_slice Tryz.underlying30 hval
  obtain ⟨fuel, hf⟩ := h
  rcases Deep.open_slice Tryz.underlying30 hf with ⟨hcs, hx⟩ | ⟨a, len, cap, m, n, D, Pl, hcs, _, hl, hm, hmm, hx, hi⟩
  · simp only [Value.cells, List.cons.injEq, and_true] at hcs
    injection hcs with h1 h2 h3
    subst h1; subst h2; subst h3
    exact ⟨[], none, 0, rfl, (fun h => by cases h), (fun o h => by cases h), Nat.le_refl _, Nat.zero_le _⟩
  · simp only [Value.cells, List.cons.injEq, and_true] at hcs
    injection hcs with h1 h2 h3
    subst h1; subst h2; subst h3
    have hlm : len0 ≤ m := by rw [hmm]; split <;> omega
    have key : ∀ i, i < len0 → ∃ o : Stp, o.ok ∧ (a.add (i * 3)).block < W.heap.size ∧ ∀ j, j < 3 → W.cell? ((a.add (i * 3)).add j) = (stpV o)[j]? := fun i hi0 => by
      obtain ⟨cs', hc, ht⟩ := hi i (by omega)
      rw [Tryz.cellsStp] at hc
      obtain ⟨_, hcl, hat⟩ := World.cells?_some hc
      obtain ⟨o, rfl, hok⟩ := stp_of_cells hcl ht
      exact ⟨o, hok, block_lt_of_cell (a := (a.add (i * 3))) (by have := hat 0 (by decide); simpa [Addr.add, stpV] using this), hat⟩
    obtain ⟨l, hll, hp⟩ := rows_list key
    subst hll
    exact ⟨l, some a, cap0, rfl, rowsAt_of (n := 3) (cv := stpV) (by decide) (fun o => rfl) (fun i o ho => (hp i o ho).2), fun o ho => (by
      obtain ⟨i, hi', rfl⟩ := List.mem_iff_getElem.1 ho
      exact (hp i l[i] (List.getElem?_eq_getElem hi')).1), hl, hm⟩

end Go.Proofs.YthmpjoiifglbjaaGreat

/- An op that is handed in, opened to its parts: no statement is proved here. -/
import Derived.Test.YtiacdcnpkfpjaaaGreatFlashOpen
import Derived.Test.YtiacdcnpkfpjaaaGreatPowerOps
import Derived.Lib.SmallJoins
import Derived.Deep.Slices
namespace Go.Proofs.YtiacdcnpkfpjaaaGreat
open Go.ChangeShapes Go.WideShapes Go.ChangeAt Go.RowKit Go.ChangeMaps Go.Joins
set_option linter.unusedVariables false

theorem Tryz.cellsOp : Tryz.prog.cellsOf 46 = 4 := by kernel_rfl
set_option maxRecDepth 100000 in
theorem open_op {H : Type} {enc : TypeId × Value → H} {W : World} {base : Nat} {v : Value} {d : DataW H} {p : List MemPlace}
    (hval : Value.okWide Tryz.prog W .any base 46 v) (h : DataW.Trod enc Tryz.prog W 0 (fun _ => true) true 46 v d p) :
    ∃ o : PwOp, v = .agg #[.int .i64 o.kind, .int .i64 o.bank, .int .i64 o.q, .string o.d] ∧ o.ok := by
  obtain ⟨cs, rfl, hsz⟩ := okWide_struct Tryz.underlying46 hval
  obtain ⟨l⟩ := cs
  match l, hsz.trans Tryz.cellsOp with
  | [c0, c1, c2, c3], _ =>
    obtain ⟨fuel, hf⟩ := h
    obtain ⟨xs, n, _, hx, _, hlen, hg⟩ := DataW.trod_struct Tryz.underlying46 hf
    match xs, hlen with
    | [y0, y1, y2, y3], _ =>
      have g0 : DataW.trod enc Tryz.prog W 0 (fun _ => true) true n 3 [c0] = some y0 := by have := hg 0 _ rfl; simpa [Value.cells, Tryz.cellsI] using this
      have g1 : DataW.trod enc Tryz.prog W 0 (fun _ => true) true n 3 [c1] = some y1 := by have := hg 1 _ rfl; simpa [Value.cells, Tryz.cellsI] using this
      have g2 : DataW.trod enc Tryz.prog W 0 (fun _ => true) true n 3 [c2] = some y2 := by have := hg 2 _ rfl; simpa [Value.cells, Tryz.cellsI] using this
      have g3 : DataW.trod enc Tryz.prog W 0 (fun _ => true) true n 9 [c3] = some y3 := by have := hg 3 _ rfl; simpa [Value.cells, Tryz.cellsS] using this
      obtain ⟨n0, e0, _, w0⟩ := DataW.trod_int Tryz.underlying3 g0
      obtain ⟨n1, e1, _, w1⟩ := DataW.trod_int Tryz.underlying3 g1
      obtain ⟨n2, e2, _, w2⟩ := DataW.trod_int Tryz.underlying3 g2
      obtain ⟨s3, e3, _, w3⟩ := DataW.trod_string Tryz.underlying9 g3
      cases e0; cases e1; cases e2; cases e3
      exact ⟨⟨n0, n1, n2, s3⟩, rfl, ⟨int_i64 w0, int_i64 w1, int_i64 w2, w3⟩⟩

set_option maxRecDepth 100000 in
/-- The cells of one op, read. -/
theorem op_of_cells {H : Type} {enc : TypeId × Value → H} {W : World} {n : Nat} {cs : List Value} {y : DataW H × List MemPlace} (hl : cs.length = 4)
    (h : DataW.trod enc Tryz.prog W 0 (fun _ => true) true n 46 cs = some y) : ∃ o : PwOp, cs = opV o ∧ o.ok := by
  match cs, hl with
  | [c0, c1, c2, c3], _ =>
    obtain ⟨xs, n, _, hx, _, hlen, hg⟩ := DataW.trod_struct Tryz.underlying46 h
    match xs, hlen with
    | [y0, y1, y2, y3], _ =>
      have g0 : DataW.trod enc Tryz.prog W 0 (fun _ => true) true n 3 [c0] = some y0 := by have := hg 0 _ rfl; simpa [Value.cells, Tryz.cellsI] using this
      have g1 : DataW.trod enc Tryz.prog W 0 (fun _ => true) true n 3 [c1] = some y1 := by have := hg 1 _ rfl; simpa [Value.cells, Tryz.cellsI] using this
      have g2 : DataW.trod enc Tryz.prog W 0 (fun _ => true) true n 3 [c2] = some y2 := by have := hg 2 _ rfl; simpa [Value.cells, Tryz.cellsI] using this
      have g3 : DataW.trod enc Tryz.prog W 0 (fun _ => true) true n 9 [c3] = some y3 := by have := hg 3 _ rfl; simpa [Value.cells, Tryz.cellsS] using this
      obtain ⟨n0, e0, _, w0⟩ := DataW.trod_int Tryz.underlying3 g0
      obtain ⟨n1, e1, _, w1⟩ := DataW.trod_int Tryz.underlying3 g1
      obtain ⟨n2, e2, _, w2⟩ := DataW.trod_int Tryz.underlying3 g2
      obtain ⟨s3, e3, _, w3⟩ := DataW.trod_string Tryz.underlying9 g3
      cases e0; cases e1; cases e2; cases e3
      exact ⟨⟨n0, n1, n2, s3⟩, rfl, ⟨int_i64 w0, int_i64 w1, int_i64 w2, w3⟩⟩

theorem upto_list {α : Type} {p : Nat → α → Prop} {n : Nat} (h : ∀ i, i < n → ∃ a, p i a) : ∃ l : List α, l.length = n ∧ ∀ i a, l[i]? = some a → p i a := by
  induction n with
  | zero => exact ⟨[], rfl, fun i a h => by cases h⟩
  | succ n ih =>
    obtain ⟨l, hl, hp⟩ := ih (fun i hi => h i (by omega))
    obtain ⟨a, ha⟩ := h n (by omega)
    refine ⟨l ++ [a], by simp [hl], fun i b hb => ?_⟩
    rcases Nat.lt_trichotomy i n with k | k | k
    · rw [List.getElem?_append_left (by omega)] at hb; exact hp i b hb
    · subst k
      rw [List.getElem?_append_right (by omega), hl, Nat.sub_self] at hb
      cases hb; exact ha
    · rw [List.getElem?_eq_none (by simp; omega)] at hb; cases hb

set_option maxRecDepth 100000 in
theorem open_ops {H : Type} {enc : TypeId × Value → H} {W : World} {base : Nat} {v : Value} {d : DataW H} {p : List MemPlace}
    (hval : Value.okWide Tryz.prog W .any base 29 v) (h : DataW.Trod enc Tryz.prog W 0 (fun _ => true) true 29 v d p) :
    ∃ (l : List PwOp) (A : Option Addr) (c : Nat), v = .slice A l.length c ∧ OpsAt W A l ∧ (∀ o ∈ l, o.ok) ∧ l.length ≤ c ∧ c ≤ maxLen := by
  obtain ⟨a0, len0, cap0, rfl⟩ := okWide_slice Tryz.underlying29 hval
  obtain ⟨fuel, hf⟩ := h
  rcases Deep.open_slice Tryz.underlying29 hf with ⟨hcs, hx⟩ | ⟨a, len, cap, m, n, D, Pl, hcs, _, hl, hm, hmm, hx, hi⟩
  · simp only [Value.cells, List.cons.injEq, and_true] at hcs
    injection hcs with h1 h2 h3
    subst h1; subst h2; subst h3
    exact ⟨[], none, 0, rfl, (fun h => by cases h), (fun o h => by cases h), Nat.le_refl _, Nat.zero_le _⟩
  · simp only [Value.cells, List.cons.injEq, and_true] at hcs
    injection hcs with h1 h2 h3
    subst h1; subst h2; subst h3
    have hlm : len0 ≤ m := by rw [hmm]; split <;> omega
    have key : ∀ i, i < len0 → ∃ o : PwOp, o.ok ∧ (a.add (i * 4)).block < W.heap.size ∧ ∀ j, j < 4 → W.cell? ((a.add (i * 4)).add j) = (opV o)[j]? := fun i hi0 => by
      obtain ⟨cs', hc, ht⟩ := hi i (by omega)
      rw [Tryz.cellsOp] at hc
      obtain ⟨_, hcl, hat⟩ := World.cells?_some hc
      obtain ⟨o, rfl, hok⟩ := op_of_cells hcl ht
      exact ⟨o, hok, block_lt_of_cell (a := (a.add (i * 4))) (by have := hat 0 (by decide); simpa [Addr.add, opV] using this), hat⟩
    obtain ⟨l, hll, hp⟩ := upto_list key
    subst hll
    refine ⟨l, some a, cap0, rfl, fun hn => ?_, fun o ho => ?_, hl, hm⟩
    · obtain ⟨b, off, spot⟩ := a
      have h0 := hp 0 l[0] (List.getElem?_eq_getElem hn)
      have hspot : spot = none := by have := h0.2.2 0 (by decide); simpa [Addr.add] using World.cell?_spot (by simpa [Addr.add, opV] using this)
      subst hspot
      refine ⟨b, off, rfl, by simpa [Addr.add] using h0.2.1, fun k o ho => ?_⟩
      obtain ⟨_, _, hc⟩ := hp k o ho
      have e : ∀ j, ((⟨b, off, none⟩ : Addr).add (k * 4)).add j = ⟨b, off + k * 4 + j, none⟩ := fun j => by unfold Addr.add; split <;> split <;> simp_all
      have c0 := hc 0 (by decide)
      have c1 := hc 1 (by decide)
      have c2 := hc 2 (by decide)
      have c3 := hc 3 (by decide)
      rw [e] at c0 c1 c2 c3
      exact ⟨c0, c1, c2, c3⟩
    · obtain ⟨i, hi', rfl⟩ := List.mem_iff_getElem.1 ho
      exact (hp i l[i] (List.getElem?_eq_getElem hi')).1
end Go.Proofs.YtiacdcnpkfpjaaaGreat

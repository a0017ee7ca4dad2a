/- What a flash is, and what becomes of it, as the document says it, on plain data: no statement is proved here. -/
import Derived.ProofKit
import Derived.Test.YthmpjoiifglbjaaGreatBytes
namespace Go.Proofs.YthmpjoiifglbjaaGreat
set_option linter.unusedVariables false

def sizeF (n : Int) : Int := if 1 ≤ n ∧ n ≤ 12 then 24 * n + 24 else 0
def slotsF (s : Int) : Int := if 48 ≤ s ∧ s ≤ 312 ∧ s % 24 = 0 then s / 24 - 1 else 0
def evenB (n : Int) : Bool := decide (1 ≤ n ∧ n ≤ 12)
def atF (k : Int) : Int := if 0 ≤ k ∧ k ≤ 12 then 24 * k else -1
def markF (k : Int) : Int := if 0 ≤ k ∧ k ≤ 12 then 24 * k + 22 else -1
theorem sizeF_in {n : Int} (h : 1 ≤ n ∧ n ≤ 12) : sizeF n = 24 * n + 24 := if_pos h
theorem sizeF_out {n : Int} (h : ¬ (1 ≤ n ∧ n ≤ 12)) : sizeF n = 0 := if_neg h
theorem slotsF_in {s : Int} (h : 48 ≤ s ∧ s ≤ 312 ∧ s % 24 = 0) : slotsF s = s / 24 - 1 := if_pos h
theorem slotsF_out {s : Int} (h : ¬ (48 ≤ s ∧ s ≤ 312 ∧ s % 24 = 0)) : slotsF s = 0 := if_neg h
theorem slotsF_size {n : Int} (h : 1 ≤ n ∧ n ≤ 12) : slotsF (24 * n + 24) = n := by rw [slotsF_in (by omega)]; omega
theorem evenB_in {n : Int} (h : 1 ≤ n ∧ n ≤ 12) : evenB n = true := by unfold evenB; simp; omega
theorem evenB_out {n : Int} (h : ¬ (1 ≤ n ∧ n ≤ 12)) : evenB n = false := by unfold evenB; simp; omega
theorem atF_in {k : Int} (h : 0 ≤ k ∧ k ≤ 12) : atF k = 24 * k := if_pos h
theorem atF_out {k : Int} (h : ¬ (0 ≤ k ∧ k ≤ 12)) : atF k = -1 := if_neg h
theorem markF_in {k : Int} (h : 0 ≤ k ∧ k ≤ 12) : markF k = 24 * k + 22 := if_pos h
theorem markF_out {k : Int} (h : ¬ (0 ≤ k ∧ k ≤ 12)) : markF k = -1 := if_neg h
end Go.Proofs.YthmpjoiifglbjaaGreat
namespace Go.Proofs.YthmpjoiifglbjaaGreat
open Go.RowKit
set_option linter.unusedVariables false

/-- A flash. -/
structure Fl where
  b0 : ByteArray
  b1 : ByteArray
  e0 : Int
  e1 : Int
  lim : Int
def Fl.bank (f : Fl) (i : Int) : ByteArray := if i = 0 then f.b0 else f.b1
def Fl.erases (f : Fl) (i : Int) : Int := if i = 0 then f.e0 else f.e1
def Fl.setBank (f : Fl) (i : Int) (s : ByteArray) : Fl := if i = 0 then { f with b0 := s } else { f with b1 := s }
/-- As a value. -/
def Fl.val (f : Fl) : Value := .agg #[.string f.b0, .string f.b1, .int .i64 f.e0, .int .i64 f.e1, .int .i64 f.lim]
def readErr (f : Fl) (bank q n : Int) : Int :=
  if bank ≠ 0 ∧ bank ≠ 1 then 1 else if 0 ≤ q ∧ 0 ≤ n ∧ q + n ≤ (f.bank bank).size then 0 else 2
def readT (f : Fl) (bank q n : Int) : ByteArray := if readErr f bank q n = 0 then (f.bank bank).extract q.toNat (q + n).toNat else ⟨#[]⟩
def progErr (f : Fl) (bank q : Int) (d : ByteArray) : Int :=
  if readErr f bank q d.size ≠ 0 then readErr f bank q d.size else if q % 2 ≠ 0 ∨ d.size % 2 ≠ 0 then 3 else 0
def splice (s : ByteArray) (q : Nat) (d : ByteArray) : ByteArray := s.extract 0 q ++ andB (s.extract q (q + d.size)) d ++ s.extract (q + d.size) s.size
def progF (f : Fl) (bank q : Int) (d : ByteArray) : Fl := if progErr f bank q d = 0 then f.setBank bank (splice (f.bank bank) q.toNat d) else f
def blankT (n : Nat) : ByteArray := bs (List.replicate n 255)
def blankB (s : ByteArray) : Bool := (bl s).all fun b => b == 255
def eraseErr (f : Fl) (bank : Int) : Int := if bank ≠ 0 ∧ bank ≠ 1 then 1 else if f.lim ≤ f.erases bank then 4 else 0
def eraseF (f : Fl) (bank : Int) : Fl :=
  if eraseErr f bank = 0 then (if bank = 0 then { f with b0 := blankT f.b0.size, e0 := f.e0 + 1 } else { f with b1 := blankT f.b1.size, e1 := f.e1 + 1 }) else f
def newF (size lim : Int) : Fl :=
  if size < 0 ∨ 400 < size ∨ lim < 0 ∨ 1000 < lim then ⟨⟨#[]⟩, ⟨#[]⟩, 0, 0, 0⟩ else ⟨blankT size.toNat, blankT size.toNat, 0, 0, lim⟩
/-- What a flash may hold in memory. -/
structure Fl.ok (f : Fl) : Prop where
  s0 : f.b0.size ≤ maxLen
  s1 : f.b1.size ≤ maxLen
  n0 : -9223372036854775808 ≤ f.e0 ∧ f.e0 ≤ 9223372036854775807
  n1 : -9223372036854775808 ≤ f.e1 ∧ f.e1 ≤ 9223372036854775807
  nl : -9223372036854775808 ≤ f.lim ∧ f.lim ≤ 9223372036854775807
/-- Block B holds the flash f. -/
def FlBox (t : TypeId) (W : World) (B : Nat) (f : Fl) : Prop := W.heap[B]? = some (.cells #[.string f.b0, .string f.b1, .int .i64 f.e0, .int .i64 f.e1, .int .i64 f.lim] t (0, 0))
theorem FlBox.lt {t : TypeId} {W : World} {B : Nat} {f : Fl} (h : FlBox t W B f) : B < W.heap.size := (Array.getElem?_eq_some_iff.1 h).1
theorem FlBox.new (t : TypeId) (W : World) (f : Fl) : FlBox t (W.alloc (.cells #[.string f.b0, .string f.b1, .int .i64 f.e0, .int .i64 f.e1, .int .i64 f.lim] t)) W.heap.size f := World.alloc_heap_new W _
theorem FlBox.seq {t : TypeId} {W W' : World} {B : Nat} {f : Fl} (h : FlBox t W B f) (k : Below W.heap.size W W') : FlBox t W' B f := (k.block B h.lt).trans h
theorem FlBox.alloc {t : TypeId} {W : World} {B : Nat} {f : Fl} (h : FlBox t W B f) (o : Obj) : FlBox t (W.alloc o) B f := h.seq ((Below.refl _ W).alloc (Nat.le_refl _) o)
theorem FlBox.cells {t : TypeId} {W : World} {B : Nat} {f : Fl} (h : FlBox t W B f) :
    W.cell? ⟨B, 0, none⟩ = some (.string f.b0) ∧ W.cell? ⟨B, 1, none⟩ = some (.string f.b1) ∧ W.cell? ⟨B, 2, none⟩ = some (.int .i64 f.e0) ∧ W.cell? ⟨B, 3, none⟩ = some (.int .i64 f.e1) ∧ W.cell? ⟨B, 4, none⟩ = some (.int .i64 f.lim) := by
  refine ⟨?_, ?_, ?_, ?_, ?_⟩
  all_goals rw [cell_of_row W B _ _ _ (0, 0) h]; rfl
theorem FlBox.frozen {t : TypeId} {W : World} {B : Nat} {f : Fl} (h : FlBox t W B f) :
    W.frozen? ⟨B, 0, none⟩ = false ∧ W.frozen? ⟨B, 1, none⟩ = false ∧ W.frozen? ⟨B, 2, none⟩ = false ∧ W.frozen? ⟨B, 3, none⟩ = false ∧ W.frozen? ⟨B, 4, none⟩ = false := by
  refine ⟨?_, ?_, ?_, ?_, ?_⟩
  all_goals exact frozen_of_row W B _ _ _ h
theorem FlBox.store {t : TypeId} {W : World} {B : Nat} {f : Fl} (h : FlBox t W B f) (g : Fl) :
    FlBox t (((((W.setCell ⟨B, 0, none⟩ (.string g.b0)).setCell ⟨B, 1, none⟩ (.string g.b1)).setCell ⟨B, 2, none⟩ (.int .i64 g.e0)).setCell ⟨B, 3, none⟩ (.int .i64 g.e1)).setCell ⟨B, 4, none⟩ (.int .i64 g.lim)) B g := by
  have h0 := heap_setCell_same W B 0 _ _ (.string g.b0) h
  have h1 := heap_setCell_same _ B 1 _ _ (.string g.b1) h0
  have h2 := heap_setCell_same _ B 2 _ _ (.int .i64 g.e0) h1
  have h3 := heap_setCell_same _ B 3 _ _ (.int .i64 g.e1) h2
  have h4 := heap_setCell_same _ B 4 _ _ (.int .i64 g.lim) h3
  exact h4
/-- Two boxes lie as they lay: for regions that draw and call. -/
theorem fsAll {t : TypeId} {W w : World} {B C : Nat} {f g : Fl} (hB : Below W.heap.size W w) (x : FlBox t w B f) (y : FlBox t w C g) :
    Below W.heap.size W w ∧ FlBox t w B f ∧ FlBox t w C g ∧ (w.cell? ⟨B, 0, none⟩ = some (.string f.b0) ∧ w.cell? ⟨B, 1, none⟩ = some (.string f.b1) ∧ w.cell? ⟨B, 2, none⟩ = some (.int .i64 f.e0) ∧ w.cell? ⟨B, 3, none⟩ = some (.int .i64 f.e1) ∧ w.cell? ⟨B, 4, none⟩ = some (.int .i64 f.lim)) ∧ (w.cell? ⟨C, 0, none⟩ = some (.string g.b0) ∧ w.cell? ⟨C, 1, none⟩ = some (.string g.b1) ∧ w.cell? ⟨C, 2, none⟩ = some (.int .i64 g.e0) ∧ w.cell? ⟨C, 3, none⟩ = some (.int .i64 g.e1) ∧ w.cell? ⟨C, 4, none⟩ = some (.int .i64 g.lim)) := ⟨hB, x, y, x.cells, y.cells⟩
theorem FlBox.drew {t : TypeId} {W : World} {B : Nat} {f : Fl} (h : FlBox t W B f) : FlBox t W.drew B f := h
theorem fsNext {t : TypeId} {W w w' : World} {B C : Nat} {f g : Fl} (h : Below W.heap.size W w ∧ FlBox t w B f ∧ FlBox t w C g ∧ (w.cell? ⟨B, 0, none⟩ = some (.string f.b0) ∧ w.cell? ⟨B, 1, none⟩ = some (.string f.b1) ∧ w.cell? ⟨B, 2, none⟩ = some (.int .i64 f.e0) ∧ w.cell? ⟨B, 3, none⟩ = some (.int .i64 f.e1) ∧ w.cell? ⟨B, 4, none⟩ = some (.int .i64 f.lim)) ∧ (w.cell? ⟨C, 0, none⟩ = some (.string g.b0) ∧ w.cell? ⟨C, 1, none⟩ = some (.string g.b1) ∧ w.cell? ⟨C, 2, none⟩ = some (.int .i64 g.e0) ∧ w.cell? ⟨C, 3, none⟩ = some (.int .i64 g.e1) ∧ w.cell? ⟨C, 4, none⟩ = some (.int .i64 g.lim))) (k : Below w.heap.size w w') :
    Below W.heap.size W w' ∧ FlBox t w' B f ∧ FlBox t w' C g ∧ (w'.cell? ⟨B, 0, none⟩ = some (.string f.b0) ∧ w'.cell? ⟨B, 1, none⟩ = some (.string f.b1) ∧ w'.cell? ⟨B, 2, none⟩ = some (.int .i64 f.e0) ∧ w'.cell? ⟨B, 3, none⟩ = some (.int .i64 f.e1) ∧ w'.cell? ⟨B, 4, none⟩ = some (.int .i64 f.lim)) ∧ (w'.cell? ⟨C, 0, none⟩ = some (.string g.b0) ∧ w'.cell? ⟨C, 1, none⟩ = some (.string g.b1) ∧ w'.cell? ⟨C, 2, none⟩ = some (.int .i64 g.e0) ∧ w'.cell? ⟨C, 3, none⟩ = some (.int .i64 g.e1) ∧ w'.cell? ⟨C, 4, none⟩ = some (.int .i64 g.lim)) := fsAll (h.1.trans (k.mono h.1.size)) (h.2.1.seq k) (h.2.2.1.seq k)
theorem fsB {t : TypeId} {W w : World} {B C : Nat} {f g : Fl} (h : Below W.heap.size W w ∧ FlBox t w B f ∧ FlBox t w C g ∧ (w.cell? ⟨B, 0, none⟩ = some (.string f.b0) ∧ w.cell? ⟨B, 1, none⟩ = some (.string f.b1) ∧ w.cell? ⟨B, 2, none⟩ = some (.int .i64 f.e0) ∧ w.cell? ⟨B, 3, none⟩ = some (.int .i64 f.e1) ∧ w.cell? ⟨B, 4, none⟩ = some (.int .i64 f.lim)) ∧ (w.cell? ⟨C, 0, none⟩ = some (.string g.b0) ∧ w.cell? ⟨C, 1, none⟩ = some (.string g.b1) ∧ w.cell? ⟨C, 2, none⟩ = some (.int .i64 g.e0) ∧ w.cell? ⟨C, 3, none⟩ = some (.int .i64 g.e1) ∧ w.cell? ⟨C, 4, none⟩ = some (.int .i64 g.lim))) : Below W.heap.size W w := h.1
end Go.Proofs.YthmpjoiifglbjaaGreat

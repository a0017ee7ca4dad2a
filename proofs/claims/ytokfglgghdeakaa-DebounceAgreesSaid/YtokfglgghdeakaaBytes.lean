/- Rows of bytes in memory, whoever laid them ([]byte of a text, a literal, a made one): what is read, stored, and told as a text: no statement is proved here. -/
import Derived.Test.YtokfglgghdeakaaBase
import Derived.Laws.IdiomStrings
import Derived.Below
import Derived.RangeFuncNested
import Derived.Maps.AppendAt
import Derived.Deep.RegionLaw
namespace Go.Proofs.Ytokfglgghdeakaa
open Go.RowKit
set_option linter.unusedVariables false

/-- Block g begins with the bytes l, which may be written. -/
def BRow (W : World) (g : Nat) (l : List UInt8) : Prop := g < W.heap.size ∧ ∀ j, j < l.length → W.cell? ⟨g, j, none⟩ = some (b8v (gd l j 0)) ∧ W.frozen? ⟨g, j, none⟩ = false
theorem BRow.below {W W' : World} {g n₀ : Nat} {l : List UInt8} (h : BRow W g l) (hg : g < n₀) (hb : Below n₀ W W') : BRow W' g l :=
  ⟨Nat.lt_of_lt_of_le h.1 hb.size, fun j hj => ⟨(hb.cell (p := ⟨g, j, none⟩) hg).trans (h.2 j hj).1, (hb.frozen (p := ⟨g, j, none⟩) hg).trans (h.2 j hj).2⟩⟩
theorem BRow.alloc {W : World} {g : Nat} {l : List UInt8} (h : BRow W g l) (o : Obj) : BRow (W.alloc o) g l := h.below h.1 ((Below.refl _ W).alloc (Nat.le_refl _) o)
theorem BRow.drew {W : World} {g : Nat} {l : List UInt8} (h : BRow W g l) : BRow W.drew g l := h
theorem BRow.drewN {W : World} {g : Nat} {l : List UInt8} (h : BRow W g l) (n : Nat) : BRow (W.drewN n) g l := h
theorem BRow.cell {W : World} {g : Nat} {l : List UInt8} (h : BRow W g l) {j : Nat} (hj : j < l.length) : W.cell? ⟨g, j, none⟩ = some (.int .u8 ((gd l j 0).toNat : Int)) := (h.2 j hj).1
theorem BRow.frozen {W : World} {g : Nat} {l : List UInt8} (h : BRow W g l) {j : Nat} (hj : j < l.length) : W.frozen? ⟨g, j, none⟩ = false := (h.2 j hj).2
theorem gd_set (l : List UInt8) (k j : Nat) (x d : UInt8) (hj : j < l.length) : gd (l.set k x) j d = if k = j then x else gd l j d := by
  unfold gd
  rw [List.getElem?_set]
  by_cases h : k = j
  · subst h; simp [hj]
  · simp [h]
theorem BRow.set {W : World} {g : Nat} {l : List UInt8} (h : BRow W g l) {k : Nat} (hk : k < l.length) (x : UInt8) : BRow (W.setCell ⟨g, k, none⟩ (.int .u8 (x.toNat : Int))) g (l.set k x) := by
  refine ⟨by rw [World.size_setCell]; exact h.1, fun j hj => ?_⟩
  rw [List.length_set] at hj
  refine ⟨?_, by rw [World.frozen?_setCell]; exact (h.2 j hj).2⟩
  rw [gd_set l k j x 0 hj]
  by_cases e : k = j
  · subst e; rw [if_pos rfl]; exact World.cell?_setCell_same _ _ _ (h.2 k hk).1
  · rw [if_neg e, World.cell?_setCell_other _ _ _ _ (fun h => e (by cases h; rfl))]; exact (h.2 j hj).1
theorem BRow.other {W : World} {g b k : Nat} {l : List UInt8} (h : BRow W g l) (hne : b ≠ g) (v : Value) : BRow (W.setCell ⟨b, k, none⟩ v) g l :=
  ⟨by rw [World.size_setCell]; exact h.1, fun j hj => ⟨(World.cell?_setCell_other _ _ _ _ (fun h => hne (by cases h; rfl))).trans (h.2 j hj).1, by rw [World.frozen?_setCell]; exact (h.2 j hj).2⟩⟩
/-- A literal of bytes. -/
theorem BRow.lit (W : World) (l : List UInt8) (e : TypeId) : BRow (W.alloc (.cells (l.map b8v).toArray e)) W.heap.size l := by
  refine ⟨by simp, fun j hj => ⟨?_, ?_⟩⟩
  · rw [cell_of_row _ W.heap.size j _ _ (0, 0) (World.alloc_heap_new W _)]
    simp [gd, hj]
  · exact frozen_of_row _ W.heap.size j _ _ (World.alloc_heap_new W _)
/-- '[]byte(s)'. -/
theorem BRow.ofString (W : World) (s : ByteArray) (e : TypeId) (cap : Nat) (fr : Nat) (hfr : s.size ≤ fr) : BRow (W.alloc (.cells (bytesRow s cap) e (fr, fr + 1))) W.heap.size (bl s) := by
  refine ⟨by simp, fun j hj => ⟨?_, ?_⟩⟩
  · rw [World.cell?_alloc_mark]
    have hj' : j < s.size := by rwa [bl_length] at hj
    have hj2 : j < s.data.size := hj'
    rw [bytesRow, Array.getElem?_append_left (by simpa using hj2), gd_in s j 0 hj']
    have h0 : s.data[j]? = some s.data[j] := Array.getElem?_eq_getElem hj2
    rw [Array.getElem?_map, h0]
    rfl
  · have h := World.alloc_heap_new W (.cells (bytesRow s cap) e (fr, fr + 1))
    simp only [World.frozen?, h]
    rw [bl_length] at hj
    simp; omega
/-- A row of bytes, as a text. -/
theorem BRow.string {P : Program} {W : World} {g : Nat} {l : List UInt8} {src dst e : TypeId} (h : BRow W g l) (hs : P.underlying src = some (.slice e)) (he : P.underlying e = some (.int .u8)) (hd : P.underlying dst = some .string) (cap : Nat) :
    (convert src dst (.slice (some ⟨g, 0, none⟩) l.length cap)).run P W = .ok (.string (bs l)) W :=
  run_convert_bytes_back W src dst e ⟨g, 0, none⟩ cap l hs he hd (fun j hj => by
    rw [show (⟨g, 0, none⟩ : Addr).add j = ⟨g, j, none⟩ from by simp [Addr.add]; omega]
    rw [(h.2 j hj).1]
    simp [b8v, gd, hj])
theorem bl_append (s t : ByteArray) : bl (s ++ t) = bl s ++ bl t := by simp [bl, ByteArray.data_append]
/-- A slice that is a new literal of bytes, as a text. -/
theorem lit_string {P : Program} {src dst e : TypeId} (hs : P.underlying src = some (.slice e)) (he : P.underlying e = some (.int .u8)) (hd : P.underlying dst = some .string) (w : World) (l : List UInt8) (cap : Nat) (cs : Array Value) (hcs : cs = (l.map b8v).toArray) :
    (convert src dst (.slice (some ⟨w.heap.size, 0, none⟩) l.length cap)).run P (w.alloc (.cells cs e)) = .ok (.string (bs l)) (w.alloc (.cells cs e)) := by
  subst hcs; exact (BRow.lit w l e).string hs he hd cap
def bxor (a b : UInt8) : UInt8 := a ^^^ b
theorem b8_xor (a b : UInt8) : bits .xor .u8 (a.toNat : Int) (b.toNat : Int) = ((bxor a b).toNat : Int) := by
  rw [u8_xor_nat _ _ a.toNat_lt b.toNat_lt, bxor, UInt8.toNat_xor]
/-- append to a row of the call's own, as one step of a region that draws its order. -/
theorem step_append_own {P : Program} {ops : Array Oper} {o : Oper} {a : Act} {w : World} {K : Act → World → Prop} {Q : Exit → Act → World → Prop} {E : Prop}
    (hg : o.guard = none) (s x : Operand) (t : TypeId) (ho : o.op = Op.call { callee := Callee.builtin Builtin.append, args := #[s, x], argTypes := #[t, t] })
    (base : Nat) (e : TypeId) (i : TypeInfo) (z : Value) (size bytes : Nat) (ht : P.underlying t = some (.slice e)) (hi : P.info? e = some i) (hz : i.zero = some z)
    (hsize : i.size = size) (hby : i.bytes = bytes) (hzs : z.cells.size = size) (hsz : 0 < size)
    (v : Value) (n : Nat) (xs : List Value) (hs : a.eval s = v) (hown : w.ownsRow base e size v n xs)
    (ad : Addr) (m c : Nat) (news : List Value) (hx : a.eval x = .slice (some ad) m c) (hl : news.length = m * size) (hnews : ∀ j u, news[j]? = some u → w.cell? (ad.add j) = some u) (h1 : ∀ u ∈ news, u.oneCell' = true)
    (h63 : n + m ≤ maxLen) (hbytes : (n + m) * bytes ≤ 140737488355328) (hbase : base ≤ w.heap.size)
    (h : ∀ v' w', w'.ownsRow base e size v' (n + m) (xs ++ news) → w.grownBy w' v.ownBlock → (v' = .slice none 0 0 ↔ v = .slice none 0 0 ∧ m = 0) → K (a.put o.dst v') w') :
    if Region.wanted o (yielded ops a.tmps) = true then Oper.wp P o a w K Q else E := by
  have hw : Region.wanted o (yielded ops a.tmps) = true := by simp [Region.wanted, hg]
  rw [if_pos hw]
  exact wp_append_own w s x t ho base e i z size bytes ht hi hz hsize hby hzs hsz v n xs hs hown ad m c news hx hl hnews h1 h63 hbytes hbase h
theorem bl_extract (s : ByteArray) (i j : Nat) : bl (s.extract i j) = ((bl s).take j).drop i := by
  simp [bl, ByteArray.data_extract, List.extract_eq_take_drop, List.drop_take]
theorem bl_get (s : ByteArray) (i : Nat) (h : i < s.size) (h' : i < (bl s).length) : (bl s)[i] = s[i] := rfl
theorem gd_upto' (f : Nat → UInt8) (n i : Nat) (d : UInt8) : gd (upto f n) i d = if i < n then f i else d := by
  unfold gd
  by_cases h : i < n
  · rw [upto_get f n i h, if_pos h]; rfl
  · rw [List.getElem?_eq_none (by rw [upto_length]; omega), if_neg h]; rfl
theorem upto_eq' {f : Nat → UInt8} {l : List UInt8} {n : Nat} (hn : l.length = n) (h : ∀ i, i < n → f i = gd l i 0) : upto f n = l := by
  subst hn
  apply List.ext_getElem
  · simp [upto]
  · intro i h1 h2
    have := h i h2
    simp [upto, this, gd, h2]
theorem bytesRow_size (s : ByteArray) (cap : Nat) : s.size ≤ (bytesRow s cap).size := by
  have h : s.data.size = s.size := rfl
  simp [bytesRow]
end Go.Proofs.Ytokfglgghdeakaa

/- Rows of bytes in memory, whoever laid them ([]byte of a text, a literal, a made one): what is read, stored, and told as a text: no statement is proved here. -/
import Derived.Test.YthmpjoiifglbjaaGreatBase
import Derived.Laws.IdiomStrings
import Derived.Below
import Derived.RangeFuncNested
import Derived.Maps.AppendAt
import Derived.Deep.RegionLaw
namespace Go.Proofs.YthmpjoiifglbjaaGreat
set_option linter.unusedVariables false

/-- One bit's step of the sum. -/
def half (c : BitVec 32) : BitVec 32 := if c.getLsbD 0 then (c >>> 1) ^^^ 0xEDB88320#32 else c >>> 1
def halves : Nat → BitVec 32 → BitVec 32
  | 0, c => c
  | n + 1, c => half (halves n c)
def z8 (b : UInt8) : BitVec 32 := BitVec.ofNat 32 b.toNat
def stepW (c : BitVec 32) (b : UInt8) : BitVec 32 := halves 8 (c ^^^ z8 b)
def foldW (c : BitVec 32) (l : List UInt8) : BitVec 32 := l.foldl stepW c
def sumW (l : List UInt8) : BitVec 32 := foldW 0xFFFFFFFF#32 l ^^^ 0xFFFFFFFF#32

theorem foldW_nil (c : BitVec 32) : foldW c [] = c := rfl
theorem foldW_cons (c : BitVec 32) (b : UInt8) (l : List UInt8) : foldW c (b :: l) = foldW (stepW c b) l := rfl
theorem foldW_append (c : BitVec 32) (l m : List UInt8) : foldW c (l ++ m) = foldW (foldW c l) m := by simp [foldW]
theorem foldW_snoc (c : BitVec 32) (l : List UInt8) (b : UInt8) : foldW c (l ++ [b]) = stepW (foldW c l) b := by simp [foldW]

theorem half_xor (a b : BitVec 32) : half (a ^^^ b) = half a ^^^ half b := by
  unfold half
  rw [BitVec.getLsbD_xor, BitVec.ushiftRight_xor_distrib]
  have hz : ∀ x y p : BitVec 32, x ^^^ y = x ^^^ p ^^^ (y ^^^ p) := fun x y p => by
    rw [BitVec.xor_assoc, BitVec.xor_comm y p, ← BitVec.xor_assoc p p y, BitVec.xor_self, BitVec.zero_xor]
  cases a.getLsbD 0 <;> cases b.getLsbD 0 <;> simp only [Bool.xor_false, Bool.xor_true, Bool.not_false, Bool.not_true, Bool.false_eq_true, if_true, if_false]
  · rw [BitVec.xor_assoc]
  · rw [BitVec.xor_assoc, BitVec.xor_assoc, BitVec.xor_comm (b >>> 1)]
  · exact hz _ _ _
theorem half_zero : half 0#32 = 0#32 := by decide
theorem halves_xor (n : Nat) (a b : BitVec 32) : halves n (a ^^^ b) = halves n a ^^^ halves n b := by
  induction n with
  | zero => rfl
  | succ n ih => simp only [halves, ih, half_xor]
theorem halves_zero (n : Nat) : halves n 0#32 = 0#32 := by
  induction n with
  | zero => rfl
  | succ n ih => simp only [halves, ih, half_zero]
theorem halves_add (m n : Nat) (c : BitVec 32) : halves (m + n) c = halves m (halves n c) := by
  induction m with
  | zero => simp [halves]
  | succ m ih => rw [show m + 1 + n = (m + n) + 1 from by omega]; simp only [halves, ih]
theorem xor_eq_zero {a b : BitVec 32} (h : a ^^^ b = 0#32) : a = b := by
  have : a ^^^ b ^^^ b = 0#32 ^^^ b := by rw [h]
  rwa [BitVec.xor_assoc, BitVec.xor_self, BitVec.xor_zero, BitVec.zero_xor] at this
theorem half_kernel {c : BitVec 32} (h : half c = 0#32) : c = 0#32 := by
  unfold half at h
  by_cases h0 : c.getLsbD 0 = true
  · rw [if_pos h0] at h
    have := congrArg (fun x : BitVec 32 => x.getLsbD 31) h
    simp at this
  · rw [if_neg h0] at h
    apply BitVec.eq_of_getLsbD_eq
    intro i hi
    rcases Nat.eq_zero_or_pos i with rfl | hp
    · simpa using h0
    · have := congrArg (fun x : BitVec 32 => x.getLsbD (i - 1)) h
      simp only [BitVec.getLsbD_ushiftRight, BitVec.getLsbD_zero] at this
      rw [show 1 + (i - 1) = i from by omega] at this
      simpa using this
theorem half_inj {a b : BitVec 32} (h : half a = half b) : a = b := by
  apply xor_eq_zero
  apply half_kernel
  rw [half_xor, h, BitVec.xor_self]
theorem halves_inj (n : Nat) {a b : BitVec 32} (h : halves n a = halves n b) : a = b := by
  induction n with
  | zero => exact h
  | succ n ih => exact ih (half_inj h)
theorem xor_right_inj {a b c : BitVec 32} (h : a ^^^ c = b ^^^ c) : a = b := by
  have := congrArg (· ^^^ c) h
  simpa [BitVec.xor_assoc] using this
theorem xor_left_inj {a b c : BitVec 32} (h : c ^^^ a = c ^^^ b) : a = b := by
  rw [BitVec.xor_comm c a, BitVec.xor_comm c b] at h; exact xor_right_inj h
theorem stepW_inj {a b : BitVec 32} {x : UInt8} (h : stepW a x = stepW b x) : a = b := xor_right_inj (halves_inj 8 h)
theorem foldW_inj {a b : BitVec 32} (l : List UInt8) (h : foldW a l = foldW b l) : a = b := by
  induction l generalizing a b with
  | nil => exact h
  | cons x l ih => exact stepW_inj (ih h)

/-- What is moved up by one bit comes back by one step. -/
theorem half_up {y : BitVec 32} (h : y.toNat < 2 ^ 31) : half (y <<< 1) = y := by
  unfold half
  have h0 : (y <<< 1).getLsbD 0 = false := by simp
  rw [h0]
  simp only [Bool.false_eq_true, if_false]
  apply BitVec.eq_of_toNat_eq
  rw [BitVec.toNat_ushiftRight, BitVec.toNat_shiftLeft, Nat.shiftLeft_eq, Nat.shiftRight_eq_div_pow]
  omega
theorem halves_up (n : Nat) {y : BitVec 32} (h : y.toNat < 2 ^ (32 - n)) (hn : n ≤ 32) : halves n (y <<< n) = y := by
  induction n generalizing y with
  | zero => simp [halves]
  | succ n ih =>
    have h1 : y <<< (n + 1) = (y <<< 1) <<< n := by rw [← BitVec.shiftLeft_add, Nat.add_comm]
    have hlt : y.toNat < 2 ^ 31 := Nat.lt_of_lt_of_le h (Nat.pow_le_pow_right (by decide) (by omega))
    have h2 : (y <<< 1).toNat < 2 ^ (32 - n) := by
      rw [BitVec.toNat_shiftLeft, Nat.shiftLeft_eq]
      have h3 : 2 ^ (32 - n) = 2 * 2 ^ (32 - (n + 1)) := by rw [show 32 - n = (32 - (n + 1)) + 1 from by omega, Nat.pow_succ]; omega
      have h4 : y.toNat * 2 ^ 1 < 2 ^ 32 := by omega
      rw [Nat.mod_eq_of_lt h4]; omega
    simp only [halves]
    rw [h1, ih h2 (by omega), half_up hlt]

/-- The word of some bytes, the first one lowest. -/
def word : List UInt8 → Nat
  | [] => 0
  | b :: l => b.toNat + 256 * word l
theorem word_lt (l : List UInt8) : word l < 256 ^ l.length := by
  induction l with
  | nil => simp [word]
  | cons b l ih =>
    have := b.toNat_lt
    simp only [word, List.length_cons, Nat.pow_succ]
    omega
theorem word_inj {l m : List UInt8} (hl : l.length = m.length) (h : word l = word m) : l = m := by
  induction l generalizing m with
  | nil => exact (List.length_eq_zero_iff.1 hl.symm).symm
  | cons b l ih =>
    cases m with
    | nil => simp at hl
    | cons c m =>
      have h1 := b.toNat_lt; have h2 := c.toNat_lt
      simp only [word] at h
      have hb : b.toNat = c.toNat := by omega
      have hw : word l = word m := by omega
      rw [UInt8.toNat_inj.1 hb, ih (by simpa using hl) hw]

/-- Four bytes at most are one word that goes through the sum's steps. -/
theorem foldW_word (l : List UInt8) (hl : l.length ≤ 4) (c : BitVec 32) : foldW c l = halves (8 * l.length) (c ^^^ BitVec.ofNat 32 (word l)) := by
  induction l generalizing c with
  | nil => simp [foldW, halves, word]
  | cons b l ih =>
    have hl' : l.length ≤ 3 := by simpa using hl
    rw [foldW_cons, ih (by omega), stepW]
    have hw := word_lt l
    have hw2 : word l < 2 ^ 24 := by
      refine Nat.lt_of_lt_of_le hw ?_
      calc 256 ^ l.length ≤ 256 ^ 3 := Nat.pow_le_pow_right (by decide) hl'
        _ = 2 ^ 24 := by decide
    have hn : (BitVec.ofNat 32 (word l)).toNat = word l := by rw [BitVec.toNat_ofNat, Nat.mod_eq_of_lt (by omega)]
    have hup : halves 8 (BitVec.ofNat 32 (word l) <<< 8) = BitVec.ofNat 32 (word l) := halves_up 8 (by rw [hn]; exact hw2) (by decide)
    rw [← hup, ← halves_xor, ← halves_add, List.length_cons, show 8 * l.length + 8 = 8 * (l.length + 1) from by omega, BitVec.xor_assoc]
    congr 2
    apply BitVec.eq_of_toNat_eq
    have hb := b.toNat_lt
    rw [BitVec.toNat_xor, BitVec.toNat_shiftLeft, hn, Nat.shiftLeft_eq, z8, BitVec.toNat_ofNat, BitVec.toNat_ofNat, word]
    rw [Nat.mod_eq_of_lt (show word l * 2 ^ 8 < 2 ^ 32 from by omega), Nat.mod_eq_of_lt (show b.toNat < 2 ^ 32 from by omega), Nat.mod_eq_of_lt (show b.toNat + 256 * word l < 2 ^ 32 from by omega)]
    have hx : b.toNat ^^^ word l * 2 ^ 8 = b.toNat + word l * 2 ^ 8 := by
      have h1 : b.toNat &&& word l * 2 ^ 8 = 0 := by
        apply Nat.eq_of_testBit_eq
        intro i
        rw [Nat.testBit_and, Nat.zero_testBit, ← Nat.shiftLeft_eq, Nat.testBit_shiftLeft]
        by_cases h8 : 8 ≤ i
        · rw [Nat.testBit_lt_two_pow (Nat.lt_of_lt_of_le hb (Nat.pow_le_pow_right (by decide) h8))]; rfl
        · simp [h8]
      have h2 : b.toNat ||| word l * 2 ^ 8 = b.toNat + word l * 2 ^ 8 := by
        rw [Nat.mul_comm (word l) (2 ^ 8), Nat.or_comm, Nat.add_comm]; exact (Nat.two_pow_add_eq_or_of_lt hb (word l)).symm
      rw [← h2]
      apply Nat.eq_of_testBit_eq
      intro i
      have h3 := congrArg (·.testBit i) h1
      simp only [Nat.testBit_and, Nat.zero_testBit] at h3
      rw [Nat.testBit_xor, Nat.testBit_or]
      revert h3
      cases b.toNat.testBit i <;> cases (word l * 2 ^ 8).testBit i <;> decide
    rw [hx]; omega

/-- Texts that differ within four bytes side by side have other sums. -/
theorem sumW_burst (l w v r : List UInt8) (hw : w.length ≤ 4) (hv : v.length = w.length) : sumW (l ++ w ++ r) = sumW (l ++ v ++ r) ↔ w = v := by
  constructor
  · intro h
    have h1 := xor_right_inj h
    rw [foldW_append, foldW_append, foldW_append, foldW_append] at h1
    have h2 := foldW_inj r h1
    rw [foldW_word w hw, foldW_word v (by omega), hv] at h2
    have h3 := xor_left_inj (halves_inj _ h2)
    have h4 := congrArg BitVec.toNat h3
    have hb : ∀ x : List UInt8, x.length ≤ 4 → word x < 2 ^ 32 := fun x hx => by
      refine Nat.lt_of_lt_of_le (word_lt x) ?_
      calc 256 ^ x.length ≤ 256 ^ 4 := Nat.pow_le_pow_right (by decide) hx
        _ = 2 ^ 32 := by decide
    rw [BitVec.toNat_ofNat, BitVec.toNat_ofNat, Nat.mod_eq_of_lt (hb w hw), Nat.mod_eq_of_lt (hb v (by omega))] at h4
    exact word_inj hv.symm h4
  · rintro rfl; rfl

/-- Bit by bit, of three texts of one length. -/
theorem z8_xor (a b : UInt8) : z8 (a ^^^ b) = z8 a ^^^ z8 b := by
  apply BitVec.eq_of_toNat_eq
  rw [BitVec.toNat_xor, z8, z8, z8, BitVec.toNat_ofNat, BitVec.toNat_ofNat, BitVec.toNat_ofNat, UInt8.toNat_xor]
  have := a.toNat_lt; have := b.toNat_lt
  have h3 : a.toNat ^^^ b.toNat < 2 ^ 8 := Nat.xor_lt_two_pow (by omega) (by omega)
  rw [Nat.mod_eq_of_lt (by omega), Nat.mod_eq_of_lt (by omega), Nat.mod_eq_of_lt (by omega)]
theorem stepW_xor (a b : BitVec 32) (x y : UInt8) : stepW (a ^^^ b) (x ^^^ y) = stepW a x ^^^ stepW b y := by
  unfold stepW
  rw [z8_xor, ← halves_xor]
  congr 1
  rw [BitVec.xor_assoc, ← BitVec.xor_assoc b, BitVec.xor_comm b, BitVec.xor_assoc (z8 x) b, ← BitVec.xor_assoc]
theorem foldW_xor (f g : Nat → UInt8) (n : Nat) (a b : BitVec 32) : foldW (a ^^^ b) (upto (fun i => f i ^^^ g i) n) = foldW a (upto f n) ^^^ foldW b (upto g n) := by
  induction n with
  | zero => rfl
  | succ n ih => rw [upto_succ, upto_succ, upto_succ, foldW_snoc, foldW_snoc, foldW_snoc, ih, stepW_xor]
theorem sumW_three (f g h : Nat → UInt8) (n : Nat) : sumW (upto (fun i => f i ^^^ g i ^^^ h i) n) = sumW (upto f n) ^^^ sumW (upto g n) ^^^ sumW (upto h n) := by
  unfold sumW
  have h1 := foldW_xor (fun i => f i ^^^ g i) h n (0xFFFFFFFF#32 ^^^ 0xFFFFFFFF#32) 0xFFFFFFFF#32
  have h2 := foldW_xor f g n 0xFFFFFFFF#32 0xFFFFFFFF#32
  rw [show (0xFFFFFFFF#32 ^^^ 0xFFFFFFFF#32 ^^^ 0xFFFFFFFF#32 : BitVec 32) = 0xFFFFFFFF#32 from by decide] at h1
  rw [h1, h2]
  generalize foldW 0xFFFFFFFF#32 (upto f n) = A
  generalize foldW 0xFFFFFFFF#32 (upto g n) = B
  generalize foldW 0xFFFFFFFF#32 (upto h n) = C
  generalize (0xFFFFFFFF#32 : BitVec 32) = M
  apply BitVec.eq_of_getLsbD_eq
  intro i hi
  simp only [BitVec.getLsbD_xor]
  cases A.getLsbD i <;> cases B.getLsbD i <;> cases C.getLsbD i <;> cases M.getLsbD i <;> rfl
end Go.Proofs.YthmpjoiifglbjaaGreat
namespace Go.Proofs.YthmpjoiifglbjaaGreat
open Go.RowKit
set_option linter.unusedVariables false

/-- Block g begins with the bytes l, which may be written. -/
def BRow (W : World) (g : Nat) (l : List UInt8) : Prop := g < W.heap.size ∧ ∀ j, j < l.length → W.cell? ⟨g, j, none⟩ = some (b8v (gd l j 0)) ∧ W.frozen? ⟨g, j, none⟩ = false
theorem BRow.below {W W' : World} {g n₀ : Nat} {l : List UInt8} (h : BRow W g l) (hg : g < n₀) (hb : Below n₀ W W') : BRow W' g l :=
  ⟨Nat.lt_of_lt_of_le h.1 hb.size, fun j hj => ⟨(hb.cell (p := ⟨g, j, none⟩) hg).trans (h.2 j hj).1, (hb.frozen (p := ⟨g, j, none⟩) hg).trans (h.2 j hj).2⟩⟩
theorem BRow.alloc {W : World} {g : Nat} {l : List UInt8} (h : BRow W g l) (o : Obj) : BRow (W.alloc o) g l := h.below h.1 ((Below.refl _ W).alloc (Nat.le_refl _) o)
theorem BRow.drew {W : World} {g : Nat} {l : List UInt8} (h : BRow W g l) : BRow W.drew g l := h
theorem BRow.drewN {W : World} {g : Nat} {l : List UInt8} (h : BRow W g l) (n : Nat) : BRow (W.drewN n) g l := h
theorem BRow.cell {W : World} {g : Nat} {l : List UInt8} (h : BRow W g l) {j : Nat} (hj : j < l.length) : W.cell? ⟨g, j, none⟩ = some (.int .u8 ((gd l j 0).toNat : Int)) := (h.2 j hj).1
theorem BRow.frozen {W : World} {g : Nat} {l : List UInt8} (h : BRow W g l) {j : Nat} (hj : j < l.length) : W.frozen? ⟨g, j, none⟩ = false := (h.2 j hj).2
theorem gd_set (l : List UInt8) (k j : Nat) (x d : UInt8) (hj : j < l.length) : gd (l.set k x) j d = if k = j then x else gd l j d := by
  unfold gd
  rw [List.getElem?_set]
  by_cases h : k = j
  · subst h; simp [hj]
  · simp [h]
theorem BRow.set {W : World} {g : Nat} {l : List UInt8} (h : BRow W g l) {k : Nat} (hk : k < l.length) (x : UInt8) : BRow (W.setCell ⟨g, k, none⟩ (.int .u8 (x.toNat : Int))) g (l.set k x) := by
  refine ⟨by rw [World.size_setCell]; exact h.1, fun j hj => ?_⟩
  rw [List.length_set] at hj
  refine ⟨?_, by rw [World.frozen?_setCell]; exact (h.2 j hj).2⟩
  rw [gd_set l k j x 0 hj]
  by_cases e : k = j
  · subst e; rw [if_pos rfl]; exact World.cell?_setCell_same _ _ _ (h.2 k hk).1
  · rw [if_neg e, World.cell?_setCell_other _ _ _ _ (fun h => e (by cases h; rfl))]; exact (h.2 j hj).1
theorem BRow.other {W : World} {g b k : Nat} {l : List UInt8} (h : BRow W g l) (hne : b ≠ g) (v : Value) : BRow (W.setCell ⟨b, k, none⟩ v) g l :=
  ⟨by rw [World.size_setCell]; exact h.1, fun j hj => ⟨(World.cell?_setCell_other _ _ _ _ (fun h => hne (by cases h; rfl))).trans (h.2 j hj).1, by rw [World.frozen?_setCell]; exact (h.2 j hj).2⟩⟩
/-- A literal of bytes. -/
theorem BRow.lit (W : World) (l : List UInt8) (e : TypeId) : BRow (W.alloc (.cells (l.map b8v).toArray e)) W.heap.size l := by
  refine ⟨by simp, fun j hj => ⟨?_, ?_⟩⟩
  · rw [cell_of_row _ W.heap.size j _ _ (0, 0) (World.alloc_heap_new W _)]
    simp [gd, hj]
  · exact frozen_of_row _ W.heap.size j _ _ (World.alloc_heap_new W _)
/-- '[]byte(s)'. -/
theorem BRow.ofString (W : World) (s : ByteArray) (e : TypeId) (cap : Nat) (fr : Nat) (hfr : s.size ≤ fr) : BRow (W.alloc (.cells (bytesRow s cap) e (fr, fr + 1))) W.heap.size (bl s) := by
  refine ⟨by simp, fun j hj => ⟨?_, ?_⟩⟩
  · rw [World.cell?_alloc_mark]
    have hj' : j < s.size := by rwa [bl_length] at hj
    have hj2 : j < s.data.size := hj'
    rw [bytesRow, Array.getElem?_append_left (by simpa using hj2), gd_in s j 0 hj']
    have h0 : s.data[j]? = some s.data[j] := Array.getElem?_eq_getElem hj2
    rw [Array.getElem?_map, h0]
    rfl
  · have h := World.alloc_heap_new W (.cells (bytesRow s cap) e (fr, fr + 1))
    simp only [World.frozen?, h]
    rw [bl_length] at hj
    simp; omega
/-- A row of bytes, as a text. -/
theorem BRow.string {P : Program} {W : World} {g : Nat} {l : List UInt8} {src dst e : TypeId} (h : BRow W g l) (hs : P.underlying src = some (.slice e)) (he : P.underlying e = some (.int .u8)) (hd : P.underlying dst = some .string) (cap : Nat) :
    (convert src dst (.slice (some ⟨g, 0, none⟩) l.length cap)).run P W = .ok (.string (bs l)) W :=
  run_convert_bytes_back W src dst e ⟨g, 0, none⟩ cap l hs he hd (fun j hj => by
    rw [show (⟨g, 0, none⟩ : Addr).add j = ⟨g, j, none⟩ from by simp [Addr.add]; omega]
    rw [(h.2 j hj).1]
    simp [b8v, gd, hj])
theorem bl_append (s t : ByteArray) : bl (s ++ t) = bl s ++ bl t := by simp [bl, ByteArray.data_append]
/-- A slice that is a new literal of bytes, as a text. -/
theorem lit_string {P : Program} {src dst e : TypeId} (hs : P.underlying src = some (.slice e)) (he : P.underlying e = some (.int .u8)) (hd : P.underlying dst = some .string) (w : World) (l : List UInt8) (cap : Nat) (cs : Array Value) (hcs : cs = (l.map b8v).toArray) :
    (convert src dst (.slice (some ⟨w.heap.size, 0, none⟩) l.length cap)).run P (w.alloc (.cells cs e)) = .ok (.string (bs l)) (w.alloc (.cells cs e)) := by
  subst hcs; exact (BRow.lit w l e).string hs he hd cap
def bxor (a b : UInt8) : UInt8 := a ^^^ b
theorem b8_xor (a b : UInt8) : bits .xor .u8 (a.toNat : Int) (b.toNat : Int) = ((bxor a b).toNat : Int) := by
  rw [u8_xor_nat _ _ a.toNat_lt b.toNat_lt, bxor, UInt8.toNat_xor]
/-- append to a row of the call's own, as one step of a region that draws its order. -/
theorem step_append_own {P : Program} {ops : Array Oper} {o : Oper} {a : Act} {w : World} {K : Act → World → Prop} {Q : Exit → Act → World → Prop} {E : Prop}
    (hg : o.guard = none) (s x : Operand) (t : TypeId) (ho : o.op = Op.call { callee := Callee.builtin Builtin.append, args := #[s, x], argTypes := #[t, t] })
    (base : Nat) (e : TypeId) (i : TypeInfo) (z : Value) (size bytes : Nat) (ht : P.underlying t = some (.slice e)) (hi : P.info? e = some i) (hz : i.zero = some z)
    (hsize : i.size = size) (hby : i.bytes = bytes) (hzs : z.cells.size = size) (hsz : 0 < size)
    (v : Value) (n : Nat) (xs : List Value) (hs : a.eval s = v) (hown : w.ownsRow base e size v n xs)
    (ad : Addr) (m c : Nat) (news : List Value) (hx : a.eval x = .slice (some ad) m c) (hl : news.length = m * size) (hnews : ∀ j u, news[j]? = some u → w.cell? (ad.add j) = some u) (h1 : ∀ u ∈ news, u.oneCell' = true)
    (h63 : n + m ≤ maxLen) (hbytes : (n + m) * bytes ≤ 140737488355328) (hbase : base ≤ w.heap.size)
    (h : ∀ v' w', w'.ownsRow base e size v' (n + m) (xs ++ news) → w.grownBy w' v.ownBlock → (v' = .slice none 0 0 ↔ v = .slice none 0 0 ∧ m = 0) → K (a.put o.dst v') w') :
    if Region.wanted o (yielded ops a.tmps) = true then Oper.wp P o a w K Q else E := by
  have hw : Region.wanted o (yielded ops a.tmps) = true := by simp [Region.wanted, hg]
  rw [if_pos hw]
  exact wp_append_own w s x t ho base e i z size bytes ht hi hz hsize hby hzs hsz v n xs hs hown ad m c news hx hl hnews h1 h63 hbytes hbase h
theorem bl_extract (s : ByteArray) (i j : Nat) : bl (s.extract i j) = ((bl s).take j).drop i := by
  simp [bl, ByteArray.data_extract, List.extract_eq_take_drop, List.drop_take]
theorem bl_get (s : ByteArray) (i : Nat) (h : i < s.size) (h' : i < (bl s).length) : (bl s)[i] = s[i] := rfl
theorem gd_upto' (f : Nat → UInt8) (n i : Nat) (d : UInt8) : gd (upto f n) i d = if i < n then f i else d := by
  unfold gd
  by_cases h : i < n
  · rw [upto_get f n i h, if_pos h]; rfl
  · rw [List.getElem?_eq_none (by rw [upto_length]; omega), if_neg h]; rfl
theorem upto_eq' {f : Nat → UInt8} {l : List UInt8} {n : Nat} (hn : l.length = n) (h : ∀ i, i < n → f i = gd l i 0) : upto f n = l := by
  subst hn
  apply List.ext_getElem
  · simp [upto]
  · intro i h1 h2
    have := h i h2
    simp [upto, this, gd, h2]
theorem bytesRow_size (s : ByteArray) (cap : Nat) : s.size ≤ (bytesRow s cap).size := by
  have h : s.data.size = s.size := rfl
  simp [bytesRow]
end Go.Proofs.YthmpjoiifglbjaaGreat

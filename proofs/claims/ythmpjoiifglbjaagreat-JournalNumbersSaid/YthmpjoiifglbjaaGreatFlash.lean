/- What a flash is, and what becomes of it, as the document says it, on plain data: no statement is proved here. -/
import Derived.Test.YthmpjoiifglbjaaGreatBytes
import Derived.Test.YthmpjoiifglbjaaGreatFieldPlain
import Derived.ProofKit
namespace Go.Proofs.YthmpjoiifglbjaaGreat
set_option linter.unusedVariables false

/-- A record. -/
structure Rec where
  kind : Int
  seq : Nat
  data : Nat
structure Rec.ok (r : Rec) : Prop where
  nk : -9223372036854775808 ≤ r.kind ∧ r.kind ≤ 9223372036854775807
  ns : r.seq < 18446744073709551616
  nd : r.data < 18446744073709551616
def Rec.known (r : Rec) : Prop := 1 ≤ r.kind ∧ r.kind ≤ 3
/-- Four bytes of a sum, the lowest one first. -/
def low4 (n : Nat) : List UInt8 := [UInt8.ofNat n, UInt8.ofNat (n / 256), UInt8.ofNat (n / 65536), UInt8.ofNat (n / 16777216)]
def low8 (k : Int) : UInt8 := UInt8.ofNat (k % 256).toNat
def headL (r : Rec) : List UInt8 := [165, low8 r.kind] ++ (putL r.seq 8 ++ putL r.data 8)
def sumN (l : List UInt8) : Nat := (sumW l).toNat
def bodyL (r : Rec) : List UInt8 := headL r ++ low4 (sumN (headL r))
def markL : List UInt8 := [90, 60]
def encL (r : Rec) : List UInt8 := bodyL r ++ markL
def sumOk (l : List UInt8) : Prop := (l.drop 18).take 4 = low4 (sumN (l.take 18))
instance (l : List UInt8) : Decidable (sumOk l) := inferInstanceAs (Decidable (_ = _))
def decE (l : List UInt8) : Int :=
  if l.length ≠ 24 then 1 else if (l.all fun b => b == 255) = true then 5 else if gd l 0 0 ≠ 165 then 6 else if ¬ sumOk l then 7
  else if (gd l 1 0).toNat < 1 ∨ 3 < (gd l 1 0).toNat then 8 else if l.drop 22 ≠ markL then 9 else 0
def decR (l : List UInt8) : Rec := if decE l = 0 then ⟨((gd l 1 0).toNat : Int), getN ((l.drop 2).take 8), getN ((l.drop 10).take 8)⟩ else ⟨0, 0, 0⟩

theorem low4_length (n : Nat) : (low4 n).length = 4 := rfl
theorem headL_length (r : Rec) : (headL r).length = 18 := by simp [headL, putL_length]
theorem bodyL_length (r : Rec) : (bodyL r).length = 22 := by rw [bodyL, List.length_append, headL_length, low4_length]
theorem encL_length (r : Rec) : (encL r).length = 24 := by rw [encL, List.length_append, bodyL_length]; rfl
theorem sumN_lt (l : List UInt8) : sumN l < 4294967296 := (sumW l).isLt
theorem word_low4 {n : Nat} (h : n < 4294967296) : word (low4 n) = n := by
  unfold low4 word word word word word
  simp only [UInt8.toNat_ofNat']
  omega
theorem word_bv {w : List UInt8} (h : w.length ≤ 4) : (BitVec.ofNat 32 (word w)).toNat = word w := by
  rw [BitVec.toNat_ofNat, Nat.mod_eq_of_lt]
  refine Nat.lt_of_lt_of_le (word_lt w) ?_
  have : 256 ^ w.length ≤ 256 ^ 4 := Nat.pow_le_pow_right (by decide) h
  exact this
/-- What the whole of a body with its sum goes through to, whatever it says. -/
theorem fold_sum (l : List UInt8) : foldW 0xFFFFFFFF#32 (l ++ low4 (sumN l)) = halves 32 0xFFFFFFFF#32 := by
  rw [foldW_append, foldW_word _ (by rw [low4_length]; exact Nat.le_refl _), low4_length]
  congr 1
  have h : BitVec.ofNat 32 (word (low4 (sumN l))) = foldW 0xFFFFFFFF#32 l ^^^ 0xFFFFFFFF#32 := by
    rw [word_low4 (sumN_lt l), sumN, sumW, BitVec.ofNat_toNat, BitVec.setWidth_eq]
  rw [h, ← BitVec.xor_assoc, BitVec.xor_self, BitVec.zero_xor]
theorem fold_of_ok {l : List UInt8} (h : sumOk l) (hl : 22 ≤ l.length) : foldW 0xFFFFFFFF#32 (l.take 22) = halves 32 0xFFFFFFFF#32 := by
  have e : l.take 22 = l.take 18 ++ (l.drop 18).take 4 := by
    rw [show (22 : Nat) = 18 + 4 from rfl, List.take_add]
  rw [e, h]; exact fold_sum _
/-- Two texts whose sums are right, and that differ within four bytes, are the same there. -/
theorem burst_ok {p w v s : List UInt8} (hw : w.length ≤ 4) (hv : v.length = w.length) (h : foldW 0xFFFFFFFF#32 (p ++ w ++ s) = foldW 0xFFFFFFFF#32 (p ++ v ++ s)) : w = v :=
  (sumW_burst p w v s hw hv).1 (by unfold sumW; rw [h])

theorem dec_zero {l : List UInt8} (h : decE l = 0) : l.length = 24 ∧ gd l 0 0 = 165 ∧ sumOk l ∧ 1 ≤ (gd l 1 0).toNat ∧ (gd l 1 0).toNat ≤ 3 ∧ l.drop 22 = markL := by
  unfold decE at h
  split at h
  · cases h
  · split at h
    · cases h
    · split at h
      · cases h
      · split at h
        · cases h
        · split at h
          · cases h
          · split at h
            · cases h
            · rename_i h1 h2 h3 h4 h5 h6
              exact ⟨Classical.not_not.1 h1, Classical.not_not.1 h3, Classical.not_not.1 h4, by omega, by omega, Classical.not_not.1 h6⟩
theorem dec_mk {l : List UInt8} (h1 : l.length = 24) (h3 : gd l 0 0 = 165) (h4 : sumOk l) (h5 : 1 ≤ (gd l 1 0).toNat ∧ (gd l 1 0).toNat ≤ 3) : decE l = if l.drop 22 = markL then 0 else 9 := by
  have h2 : ¬ (l.all fun b => b == 255) = true := by
    intro h
    cases l with
    | nil => cases h1
    | cons b l =>
      simp only [gd, List.getElem?_cons_zero, Option.getD_some] at h3
      subst h3
      simp at h
  unfold decE
  rw [if_neg (Classical.not_not.2 h1), if_neg h2, if_neg (Classical.not_not.2 h3), if_neg (Classical.not_not.2 h4), if_neg (by omega)]
  by_cases h : l.drop 22 = markL
  · rw [if_neg (Classical.not_not.2 h), if_pos h]
  · rw [if_pos h, if_neg h]
theorem low8_known {r : Rec} (h : r.known) : ((low8 r.kind).toNat : Int) = r.kind := by
  obtain ⟨h1, h2⟩ := h
  unfold low8; rw [UInt8.toNat_ofNat']; omega
theorem body_parts (r : Rec) (m : List UInt8) : (bodyL r ++ m).take 18 = headL r ∧ ((bodyL r ++ m).drop 18).take 4 = low4 (sumN (headL r)) ∧ (bodyL r ++ m).drop 22 = m := by
  refine ⟨?_, ?_, ?_⟩
  · rw [bodyL, List.append_assoc, List.take_left' (headL_length r)]
  · rw [bodyL, List.append_assoc, List.drop_left' (headL_length r), List.take_left' (low4_length _)]
  · rw [List.drop_left' (bodyL_length r)]
theorem dec_body {r : Rec} (h : r.known) {m : List UInt8} (hm : m.length = 2) : decE (bodyL r ++ m) = if m = markL then 0 else 9 := by
  obtain ⟨h1, h2, h3⟩ := body_parts r m
  have hb : gd (bodyL r ++ m) 1 0 = low8 r.kind := rfl
  have hk := low8_known h
  obtain ⟨k1, k2⟩ := h
  rw [dec_mk (by rw [List.length_append, bodyL_length, hm]) rfl (by unfold sumOk; rw [h1, h2]) (by rw [hb]; omega), h3]
theorem decR_body {r : Rec} (hr : r.ok) (h : r.known) : decR (encL r) = r := by
  have he : decE (encL r) = 0 := by
    have := dec_body h (m := markL) rfl
    rwa [if_pos rfl] at this
  unfold decR
  rw [if_pos he]
  have hb : gd (encL r) 1 0 = low8 r.kind := rfl
  have hk := low8_known h
  have e1 : ((encL r).drop 2).take 8 = putL r.seq 8 := by
    show ((putL r.seq 8 ++ putL r.data 8 ++ low4 (sumN (headL r)) ++ markL)).take 8 = _
    rw [List.append_assoc, List.append_assoc, List.take_left' (putL_length _ _)]
  have e2 : ((encL r).drop 10).take 8 = putL r.data 8 := by
    show (((putL r.seq 8 ++ putL r.data 8 ++ low4 (sumN (headL r)) ++ markL)).drop 8).take 8 = _
    rw [List.append_assoc, List.append_assoc, List.drop_left' (putL_length _ _), List.take_left' (putL_length _ _)]
  rw [hb, e1, e2, getN_putL, getN_putL, hk]
  have p8 : (256 : Nat) ^ 8 = 18446744073709551616 := by decide
  rw [p8, Nat.mod_eq_of_lt hr.ns, Nat.mod_eq_of_lt hr.nd]
theorem encL_inj {a b : Rec} (ha : a.ok) (hb : b.ok) (ka : a.known) (kb : b.known) (h : encL a = encL b) : a = b := by
  rw [← decR_body ha ka, ← decR_body hb kb, h]
theorem bodyL_inj {a b : Rec} (ha : a.ok) (hb : b.ok) (ka : a.known) (kb : b.known) (h : bodyL a = bodyL b) : a = b :=
  encL_inj ha hb ka kb (by unfold encL; rw [h])
/-- Bytes that are decoded are that record's. -/
theorem enc_decR {l : List UInt8} (h : decE l = 0) : encL (decR l) = l ∧ (decR l).known ∧ (decR l).ok := by
  obtain ⟨h1, h2, h3, h4, h5, h6⟩ := dec_zero h
  have hR : decR l = ⟨((gd l 1 0).toNat : Int), getN ((l.drop 2).take 8), getN ((l.drop 10).take 8)⟩ := if_pos h
  have hlo : low8 ((gd l 1 0).toNat : Int) = gd l 1 0 := by
    apply UInt8.toNat_inj.1; unfold low8; rw [UInt8.toNat_ofNat']; have := (gd l 1 0).toNat_lt; omega
  have p8 : (256 : Nat) ^ 8 = 18446744073709551616 := by decide
  have l1 : ((l.drop 2).take 8).length = 8 := by simp; omega
  have l2 : ((l.drop 10).take 8).length = 8 := by simp; omega
  have q1 : putL (getN ((l.drop 2).take 8)) 8 = (l.drop 2).take 8 := by have := putL_getN ((l.drop 2).take 8); rwa [l1] at this
  have q2 : putL (getN ((l.drop 10).take 8)) 8 = (l.drop 10).take 8 := by have := putL_getN ((l.drop 10).take 8); rwa [l2] at this
  have hh : headL (decR l) = l.take 18 := by
    rw [hR]
    show [165, low8 ((gd l 1 0).toNat : Int)] ++ (putL (getN ((l.drop 2).take 8)) 8 ++ putL (getN ((l.drop 10).take 8)) 8) = _
    rw [hlo, q1, q2]
    match l, h1, h2 with
    | a :: b :: t, h1, h2 =>
      simp only [gd, List.getElem?_cons_zero, Option.getD_some] at h2
      subst h2
      show 165 :: b :: (t.take 8 ++ (t.drop 8).take 8) = 165 :: b :: t.take 16
      rw [show (16 : Nat) = 8 + 8 from rfl, List.take_add]
  refine ⟨?_, ?_, ?_⟩
  · unfold encL bodyL
    rw [hh]
    have : low4 (sumN (l.take 18)) = (l.drop 18).take 4 := h3.symm
    rw [this, ← h6]
    rw [show l.take 18 ++ (l.drop 18).take 4 = l.take 22 from by rw [show (22 : Nat) = 18 + 4 from rfl, List.take_add], List.take_append_drop]
  · rw [hR]; exact ⟨by show (1 : Int) ≤ ((gd l 1 0).toNat : Int); omega, by show ((gd l 1 0).toNat : Int) ≤ 3; omega⟩
  · rw [hR]
    have g1 := getN_lt ((l.drop 2).take 8)
    have g2 := getN_lt ((l.drop 10).take 8)
    rw [l1, p8] at g1
    rw [l2, p8] at g2
    exact ⟨by constructor <;> (show _ ≤ _) <;> simp <;> omega, g1, g2⟩
/-- Not good without its mark. -/
theorem dec_noMark {l m : List UInt8} (hl : l.length = 22) (hm : m ≠ markL) : decE (l ++ m) ≠ 0 := fun h => by
  obtain ⟨_, _, _, _, _, h6⟩ := dec_zero h
  rw [List.drop_left' hl] at h6
  exact hm h6
/-- A good record in which some bits are turned, within four bytes that stand side by side, is good no more, or the same one. -/
theorem dec_turned {p w v s : List UInt8} (h : decE (p ++ w ++ s) = 0) (k : decE (p ++ v ++ s) = 0) (hw : w.length = 4) (hv : v.length = 4) (hp : p.length ≤ 20) : w = v := by
  obtain ⟨h1, _, h3, _, _, h6⟩ := dec_zero h
  obtain ⟨k1, _, k3, _, _, k6⟩ := dec_zero k
  have f1 := fold_of_ok h3 (by omega)
  have f2 := fold_of_ok k3 (by omega)
  have d : 22 - p.length = 22 - p.length := rfl
  have t1 : ∀ u : List UInt8, u.length = 4 → (p ++ u ++ s).take 22 = p ++ u.take (22 - p.length) ++ s.take (22 - p.length - 4) := fun u hu => by
    rw [List.take_append, List.take_append, List.length_append, List.take_of_length_le (show p.length ≤ 22 from by omega), hu, Nat.sub_sub]
  rw [t1 w hw] at f1
  rw [t1 v hv] at f2
  have e1 : w.take (22 - p.length) = v.take (22 - p.length) :=
    burst_ok (by rw [List.length_take]; omega) (by rw [List.length_take, List.length_take, hw, hv]) (f1.trans f2.symm)
  have t2 : ∀ u : List UInt8, u.length = 4 → (p ++ u ++ s).drop 22 = u.drop (22 - p.length) ++ s.drop (22 - p.length - 4) := fun u hu => by
    rw [List.drop_append, List.drop_append, List.length_append, List.drop_eq_nil_of_le (show p.length ≤ 22 from by omega), List.nil_append, hu, Nat.sub_sub]
  have e2 : w.drop (22 - p.length) = v.drop (22 - p.length) := by
    have h7 := h6.trans k6.symm
    rw [t2 w hw, t2 v hv] at h7
    exact (List.append_inj h7 (by rw [List.length_drop, List.length_drop, hw, hv])).1
  rw [← List.take_append_drop (22 - p.length) w, e1, e2, List.take_append_drop]
theorem dec_at22 {l : List UInt8} (h : decE l = 0) : gd l 22 0 = 90 := by
  obtain ⟨h1, _, _, _, _, h6⟩ := dec_zero h
  have : (l.drop 22)[0]? = some 90 := by rw [h6]; rfl
  rw [List.getElem?_drop] at this
  unfold gd
  rw [this]; rfl
end Go.Proofs.YthmpjoiifglbjaaGreat
namespace Go.Proofs.YthmpjoiifglbjaaGreat
set_option linter.unusedVariables false

def sizeF (n : Int) : Int := if 1 ≤ n ∧ n ≤ 12 then 24 * n + 24 else 0
def slotsF (s : Int) : Int := if 48 ≤ s ∧ s ≤ 312 ∧ s % 24 = 0 then s / 24 - 1 else 0
def evenB (n : Int) : Bool := decide (1 ≤ n ∧ n ≤ 12)
def atF (k : Int) : Int := if 0 ≤ k ∧ k ≤ 12 then 24 * k else -1
def markF (k : Int) : Int := if 0 ≤ k ∧ k ≤ 12 then 24 * k + 22 else -1
theorem sizeF_in {n : Int} (h : 1 ≤ n ∧ n ≤ 12) : sizeF n = 24 * n + 24 := if_pos h
theorem sizeF_out {n : Int} (h : ¬ (1 ≤ n ∧ n ≤ 12)) : sizeF n = 0 := if_neg h
theorem slotsF_in {s : Int} (h : 48 ≤ s ∧ s ≤ 312 ∧ s % 24 = 0) : slotsF s = s / 24 - 1 := if_pos h
theorem slotsF_out {s : Int} (h : ¬ (48 ≤ s ∧ s ≤ 312 ∧ s % 24 = 0)) : slotsF s = 0 := if_neg h
theorem slotsF_size {n : Int} (h : 1 ≤ n ∧ n ≤ 12) : slotsF (24 * n + 24) = n := by rw [slotsF_in (by omega)]; omega
theorem evenB_in {n : Int} (h : 1 ≤ n ∧ n ≤ 12) : evenB n = true := by unfold evenB; simp; omega
theorem evenB_out {n : Int} (h : ¬ (1 ≤ n ∧ n ≤ 12)) : evenB n = false := by unfold evenB; simp; omega
theorem atF_in {k : Int} (h : 0 ≤ k ∧ k ≤ 12) : atF k = 24 * k := if_pos h
theorem atF_out {k : Int} (h : ¬ (0 ≤ k ∧ k ≤ 12)) : atF k = -1 := if_neg h
theorem markF_in {k : Int} (h : 0 ≤ k ∧ k ≤ 12) : markF k = 24 * k + 22 := if_pos h
theorem markF_out {k : Int} (h : ¬ (0 ≤ k ∧ k ≤ 12)) : markF k = -1 := if_neg h
end Go.Proofs.YthmpjoiifglbjaaGreat
namespace Go.Proofs.YthmpjoiifglbjaaGreat
open Go.RowKit
set_option linter.unusedVariables false

/-- A flash. -/
structure Fl where
  b0 : ByteArray
  b1 : ByteArray
  e0 : Int
  e1 : Int
  lim : Int
def Fl.bank (f : Fl) (i : Int) : ByteArray := if i = 0 then f.b0 else f.b1
def Fl.erases (f : Fl) (i : Int) : Int := if i = 0 then f.e0 else f.e1
def Fl.setBank (f : Fl) (i : Int) (s : ByteArray) : Fl := if i = 0 then { f with b0 := s } else { f with b1 := s }
/-- As a value. -/
def Fl.val (f : Fl) : Value := .agg #[.string f.b0, .string f.b1, .int .i64 f.e0, .int .i64 f.e1, .int .i64 f.lim]
def readErr (f : Fl) (bank q n : Int) : Int :=
  if bank ≠ 0 ∧ bank ≠ 1 then 1 else if 0 ≤ q ∧ 0 ≤ n ∧ q + n ≤ (f.bank bank).size then 0 else 2
def readT (f : Fl) (bank q n : Int) : ByteArray := if readErr f bank q n = 0 then (f.bank bank).extract q.toNat (q + n).toNat else ⟨#[]⟩
def progErr (f : Fl) (bank q : Int) (d : ByteArray) : Int :=
  if readErr f bank q d.size ≠ 0 then readErr f bank q d.size else if q % 2 ≠ 0 ∨ d.size % 2 ≠ 0 then 3 else 0
def splice (s : ByteArray) (q : Nat) (d : ByteArray) : ByteArray := s.extract 0 q ++ andB (s.extract q (q + d.size)) d ++ s.extract (q + d.size) s.size
def progF (f : Fl) (bank q : Int) (d : ByteArray) : Fl := if progErr f bank q d = 0 then f.setBank bank (splice (f.bank bank) q.toNat d) else f
def blankT (n : Nat) : ByteArray := bs (List.replicate n 255)
def blankB (s : ByteArray) : Bool := (bl s).all fun b => b == 255
def eraseErr (f : Fl) (bank : Int) : Int := if bank ≠ 0 ∧ bank ≠ 1 then 1 else if f.lim ≤ f.erases bank then 4 else 0
def eraseF (f : Fl) (bank : Int) : Fl :=
  if eraseErr f bank = 0 then (if bank = 0 then { f with b0 := blankT f.b0.size, e0 := f.e0 + 1 } else { f with b1 := blankT f.b1.size, e1 := f.e1 + 1 }) else f
def newF (size lim : Int) : Fl :=
  if size < 0 ∨ 400 < size ∨ lim < 0 ∨ 1000 < lim then ⟨⟨#[]⟩, ⟨#[]⟩, 0, 0, 0⟩ else ⟨blankT size.toNat, blankT size.toNat, 0, 0, lim⟩
/-- What a flash may hold in memory. -/
structure Fl.ok (f : Fl) : Prop where
  s0 : f.b0.size ≤ maxLen
  s1 : f.b1.size ≤ maxLen
  n0 : -9223372036854775808 ≤ f.e0 ∧ f.e0 ≤ 9223372036854775807
  n1 : -9223372036854775808 ≤ f.e1 ∧ f.e1 ≤ 9223372036854775807
  nl : -9223372036854775808 ≤ f.lim ∧ f.lim ≤ 9223372036854775807
/-- Block B holds the flash f. -/
def FlBox (t : TypeId) (W : World) (B : Nat) (f : Fl) : Prop := W.heap[B]? = some (.cells #[.string f.b0, .string f.b1, .int .i64 f.e0, .int .i64 f.e1, .int .i64 f.lim] t (0, 0))
theorem FlBox.lt {t : TypeId} {W : World} {B : Nat} {f : Fl} (h : FlBox t W B f) : B < W.heap.size := (Array.getElem?_eq_some_iff.1 h).1
theorem FlBox.new (t : TypeId) (W : World) (f : Fl) : FlBox t (W.alloc (.cells #[.string f.b0, .string f.b1, .int .i64 f.e0, .int .i64 f.e1, .int .i64 f.lim] t)) W.heap.size f := World.alloc_heap_new W _
theorem FlBox.seq {t : TypeId} {W W' : World} {B : Nat} {f : Fl} (h : FlBox t W B f) (k : Below W.heap.size W W') : FlBox t W' B f := (k.block B h.lt).trans h
theorem FlBox.alloc {t : TypeId} {W : World} {B : Nat} {f : Fl} (h : FlBox t W B f) (o : Obj) : FlBox t (W.alloc o) B f := h.seq ((Below.refl _ W).alloc (Nat.le_refl _) o)
theorem FlBox.cells {t : TypeId} {W : World} {B : Nat} {f : Fl} (h : FlBox t W B f) :
    W.cell? ⟨B, 0, none⟩ = some (.string f.b0) ∧ W.cell? ⟨B, 1, none⟩ = some (.string f.b1) ∧ W.cell? ⟨B, 2, none⟩ = some (.int .i64 f.e0) ∧ W.cell? ⟨B, 3, none⟩ = some (.int .i64 f.e1) ∧ W.cell? ⟨B, 4, none⟩ = some (.int .i64 f.lim) := by
  refine ⟨?_, ?_, ?_, ?_, ?_⟩
  all_goals rw [cell_of_row W B _ _ _ (0, 0) h]; rfl
theorem FlBox.frozen {t : TypeId} {W : World} {B : Nat} {f : Fl} (h : FlBox t W B f) :
    W.frozen? ⟨B, 0, none⟩ = false ∧ W.frozen? ⟨B, 1, none⟩ = false ∧ W.frozen? ⟨B, 2, none⟩ = false ∧ W.frozen? ⟨B, 3, none⟩ = false ∧ W.frozen? ⟨B, 4, none⟩ = false := by
  refine ⟨?_, ?_, ?_, ?_, ?_⟩
  all_goals exact frozen_of_row W B _ _ _ h
theorem FlBox.store {t : TypeId} {W : World} {B : Nat} {f : Fl} (h : FlBox t W B f) (g : Fl) :
    FlBox t (((((W.setCell ⟨B, 0, none⟩ (.string g.b0)).setCell ⟨B, 1, none⟩ (.string g.b1)).setCell ⟨B, 2, none⟩ (.int .i64 g.e0)).setCell ⟨B, 3, none⟩ (.int .i64 g.e1)).setCell ⟨B, 4, none⟩ (.int .i64 g.lim)) B g := by
  have h0 := heap_setCell_same W B 0 _ _ (.string g.b0) h
  have h1 := heap_setCell_same _ B 1 _ _ (.string g.b1) h0
  have h2 := heap_setCell_same _ B 2 _ _ (.int .i64 g.e0) h1
  have h3 := heap_setCell_same _ B 3 _ _ (.int .i64 g.e1) h2
  have h4 := heap_setCell_same _ B 4 _ _ (.int .i64 g.lim) h3
  exact h4
/-- Two boxes lie as they lay: for regions that draw and call. -/
theorem fsAll {t : TypeId} {W w : World} {B C : Nat} {f g : Fl} (hB : Below W.heap.size W w) (x : FlBox t w B f) (y : FlBox t w C g) :
    Below W.heap.size W w ∧ FlBox t w B f ∧ FlBox t w C g ∧ (w.cell? ⟨B, 0, none⟩ = some (.string f.b0) ∧ w.cell? ⟨B, 1, none⟩ = some (.string f.b1) ∧ w.cell? ⟨B, 2, none⟩ = some (.int .i64 f.e0) ∧ w.cell? ⟨B, 3, none⟩ = some (.int .i64 f.e1) ∧ w.cell? ⟨B, 4, none⟩ = some (.int .i64 f.lim)) ∧ (w.cell? ⟨C, 0, none⟩ = some (.string g.b0) ∧ w.cell? ⟨C, 1, none⟩ = some (.string g.b1) ∧ w.cell? ⟨C, 2, none⟩ = some (.int .i64 g.e0) ∧ w.cell? ⟨C, 3, none⟩ = some (.int .i64 g.e1) ∧ w.cell? ⟨C, 4, none⟩ = some (.int .i64 g.lim)) := ⟨hB, x, y, x.cells, y.cells⟩
theorem FlBox.drew {t : TypeId} {W : World} {B : Nat} {f : Fl} (h : FlBox t W B f) : FlBox t W.drew B f := h
theorem fsNext {t : TypeId} {W w w' : World} {B C : Nat} {f g : Fl} (h : Below W.heap.size W w ∧ FlBox t w B f ∧ FlBox t w C g ∧ (w.cell? ⟨B, 0, none⟩ = some (.string f.b0) ∧ w.cell? ⟨B, 1, none⟩ = some (.string f.b1) ∧ w.cell? ⟨B, 2, none⟩ = some (.int .i64 f.e0) ∧ w.cell? ⟨B, 3, none⟩ = some (.int .i64 f.e1) ∧ w.cell? ⟨B, 4, none⟩ = some (.int .i64 f.lim)) ∧ (w.cell? ⟨C, 0, none⟩ = some (.string g.b0) ∧ w.cell? ⟨C, 1, none⟩ = some (.string g.b1) ∧ w.cell? ⟨C, 2, none⟩ = some (.int .i64 g.e0) ∧ w.cell? ⟨C, 3, none⟩ = some (.int .i64 g.e1) ∧ w.cell? ⟨C, 4, none⟩ = some (.int .i64 g.lim))) (k : Below w.heap.size w w') :
    Below W.heap.size W w' ∧ FlBox t w' B f ∧ FlBox t w' C g ∧ (w'.cell? ⟨B, 0, none⟩ = some (.string f.b0) ∧ w'.cell? ⟨B, 1, none⟩ = some (.string f.b1) ∧ w'.cell? ⟨B, 2, none⟩ = some (.int .i64 f.e0) ∧ w'.cell? ⟨B, 3, none⟩ = some (.int .i64 f.e1) ∧ w'.cell? ⟨B, 4, none⟩ = some (.int .i64 f.lim)) ∧ (w'.cell? ⟨C, 0, none⟩ = some (.string g.b0) ∧ w'.cell? ⟨C, 1, none⟩ = some (.string g.b1) ∧ w'.cell? ⟨C, 2, none⟩ = some (.int .i64 g.e0) ∧ w'.cell? ⟨C, 3, none⟩ = some (.int .i64 g.e1) ∧ w'.cell? ⟨C, 4, none⟩ = some (.int .i64 g.lim)) := fsAll (h.1.trans (k.mono h.1.size)) (h.2.1.seq k) (h.2.2.1.seq k)
theorem fsB {t : TypeId} {W w : World} {B C : Nat} {f g : Fl} (h : Below W.heap.size W w ∧ FlBox t w B f ∧ FlBox t w C g ∧ (w.cell? ⟨B, 0, none⟩ = some (.string f.b0) ∧ w.cell? ⟨B, 1, none⟩ = some (.string f.b1) ∧ w.cell? ⟨B, 2, none⟩ = some (.int .i64 f.e0) ∧ w.cell? ⟨B, 3, none⟩ = some (.int .i64 f.e1) ∧ w.cell? ⟨B, 4, none⟩ = some (.int .i64 f.lim)) ∧ (w.cell? ⟨C, 0, none⟩ = some (.string g.b0) ∧ w.cell? ⟨C, 1, none⟩ = some (.string g.b1) ∧ w.cell? ⟨C, 2, none⟩ = some (.int .i64 g.e0) ∧ w.cell? ⟨C, 3, none⟩ = some (.int .i64 g.e1) ∧ w.cell? ⟨C, 4, none⟩ = some (.int .i64 g.lim))) : Below W.heap.size W w := h.1
end Go.Proofs.YthmpjoiifglbjaaGreat

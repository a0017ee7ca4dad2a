/- Plain laws of the sum of layer 2, on bit vectors: what a burst of four bytes at most changes: no statement is proved here. -/
import Derived.Test.YthmpjoiifglbjaaGreatBase
namespace Go.Proofs.YthmpjoiifglbjaaGreat
set_option linter.unusedVariables false

/-- One bit's step of the sum. -/
def half (c : BitVec 32) : BitVec 32 := if c.getLsbD 0 then (c >>> 1) ^^^ 0xEDB88320#32 else c >>> 1
def halves : Nat → BitVec 32 → BitVec 32
  | 0, c => c
  | n + 1, c => half (halves n c)
def z8 (b : UInt8) : BitVec 32 := BitVec.ofNat 32 b.toNat
def stepW (c : BitVec 32) (b : UInt8) : BitVec 32 := halves 8 (c ^^^ z8 b)
def foldW (c : BitVec 32) (l : List UInt8) : BitVec 32 := l.foldl stepW c
def sumW (l : List UInt8) : BitVec 32 := foldW 0xFFFFFFFF#32 l ^^^ 0xFFFFFFFF#32

theorem foldW_nil (c : BitVec 32) : foldW c [] = c := rfl
theorem foldW_cons (c : BitVec 32) (b : UInt8) (l : List UInt8) : foldW c (b :: l) = foldW (stepW c b) l := rfl
theorem foldW_append (c : BitVec 32) (l m : List UInt8) : foldW c (l ++ m) = foldW (foldW c l) m := by simp [foldW]
theorem foldW_snoc (c : BitVec 32) (l : List UInt8) (b : UInt8) : foldW c (l ++ [b]) = stepW (foldW c l) b := by simp [foldW]

theorem half_xor (a b : BitVec 32) : half (a ^^^ b) = half a ^^^ half b := by
  unfold half
  rw [BitVec.getLsbD_xor, BitVec.ushiftRight_xor_distrib]
  have hz : ∀ x y p : BitVec 32, x ^^^ y = x ^^^ p ^^^ (y ^^^ p) := fun x y p => by
    rw [BitVec.xor_assoc, BitVec.xor_comm y p, ← BitVec.xor_assoc p p y, BitVec.xor_self, BitVec.zero_xor]
  cases a.getLsbD 0 <;> cases b.getLsbD 0 <;> simp only [Bool.xor_false, Bool.xor_true, Bool.not_false, Bool.not_true, Bool.false_eq_true, if_true, if_false]
  · rw [BitVec.xor_assoc]
  · rw [BitVec.xor_assoc, BitVec.xor_assoc, BitVec.xor_comm (b >>> 1)]
  · exact hz _ _ _
theorem half_zero : half 0#32 = 0#32 := by decide
theorem halves_xor (n : Nat) (a b : BitVec 32) : halves n (a ^^^ b) = halves n a ^^^ halves n b := by
  induction n with
  | zero => rfl
  | succ n ih => simp only [halves, ih, half_xor]
theorem halves_zero (n : Nat) : halves n 0#32 = 0#32 := by
  induction n with
  | zero => rfl
  | succ n ih => simp only [halves, ih, half_zero]
theorem halves_add (m n : Nat) (c : BitVec 32) : halves (m + n) c = halves m (halves n c) := by
  induction m with
  | zero => simp [halves]
  | succ m ih => rw [show m + 1 + n = (m + n) + 1 from by omega]; simp only [halves, ih]
theorem xor_eq_zero {a b : BitVec 32} (h : a ^^^ b = 0#32) : a = b := by
  have : a ^^^ b ^^^ b = 0#32 ^^^ b := by rw [h]
  rwa [BitVec.xor_assoc, BitVec.xor_self, BitVec.xor_zero, BitVec.zero_xor] at this
theorem half_kernel {c : BitVec 32} (h : half c = 0#32) : c = 0#32 := by
  unfold half at h
  by_cases h0 : c.getLsbD 0 = true
  · rw [if_pos h0] at h
    have := congrArg (fun x : BitVec 32 => x.getLsbD 31) h
    simp at this
  · rw [if_neg h0] at h
    apply BitVec.eq_of_getLsbD_eq
    intro i hi
    rcases Nat.eq_zero_or_pos i with rfl | hp
    · simpa using h0
    · have := congrArg (fun x : BitVec 32 => x.getLsbD (i - 1)) h
      simp only [BitVec.getLsbD_ushiftRight, BitVec.getLsbD_zero] at this
      rw [show 1 + (i - 1) = i from by omega] at this
      simpa using this
theorem half_inj {a b : BitVec 32} (h : half a = half b) : a = b := by
  apply xor_eq_zero
  apply half_kernel
  rw [half_xor, h, BitVec.xor_self]
theorem halves_inj (n : Nat) {a b : BitVec 32} (h : halves n a = halves n b) : a = b := by
  induction n with
  | zero => exact h
  | succ n ih => exact ih (half_inj h)
theorem xor_right_inj {a b c : BitVec 32} (h : a ^^^ c = b ^^^ c) : a = b := by
  have := congrArg (· ^^^ c) h
  simpa [BitVec.xor_assoc] using this
theorem xor_left_inj {a b c : BitVec 32} (h : c ^^^ a = c ^^^ b) : a = b := by
  rw [BitVec.xor_comm c a, BitVec.xor_comm c b] at h; exact xor_right_inj h
theorem stepW_inj {a b : BitVec 32} {x : UInt8} (h : stepW a x = stepW b x) : a = b := xor_right_inj (halves_inj 8 h)
theorem foldW_inj {a b : BitVec 32} (l : List UInt8) (h : foldW a l = foldW b l) : a = b := by
  induction l generalizing a b with
  | nil => exact h
  | cons x l ih => exact stepW_inj (ih h)

/-- What is moved up by one bit comes back by one step. -/
theorem half_up {y : BitVec 32} (h : y.toNat < 2 ^ 31) : half (y <<< 1) = y := by
  unfold half
  have h0 : (y <<< 1).getLsbD 0 = false := by simp
  rw [h0]
  simp only [Bool.false_eq_true, if_false]
  apply BitVec.eq_of_toNat_eq
  rw [BitVec.toNat_ushiftRight, BitVec.toNat_shiftLeft, Nat.shiftLeft_eq, Nat.shiftRight_eq_div_pow]
  omega
theorem halves_up (n : Nat) {y : BitVec 32} (h : y.toNat < 2 ^ (32 - n)) (hn : n ≤ 32) : halves n (y <<< n) = y := by
  induction n generalizing y with
  | zero => simp [halves]
  | succ n ih =>
    have h1 : y <<< (n + 1) = (y <<< 1) <<< n := by rw [← BitVec.shiftLeft_add, Nat.add_comm]
    have hlt : y.toNat < 2 ^ 31 := Nat.lt_of_lt_of_le h (Nat.pow_le_pow_right (by decide) (by omega))
    have h2 : (y <<< 1).toNat < 2 ^ (32 - n) := by
      rw [BitVec.toNat_shiftLeft, Nat.shiftLeft_eq]
      have h3 : 2 ^ (32 - n) = 2 * 2 ^ (32 - (n + 1)) := by rw [show 32 - n = (32 - (n + 1)) + 1 from by omega, Nat.pow_succ]; omega
      have h4 : y.toNat * 2 ^ 1 < 2 ^ 32 := by omega
      rw [Nat.mod_eq_of_lt h4]; omega
    simp only [halves]
    rw [h1, ih h2 (by omega), half_up hlt]

/-- The word of some bytes, the first one lowest. -/
def word : List UInt8 → Nat
  | [] => 0
  | b :: l => b.toNat + 256 * word l
theorem word_lt (l : List UInt8) : word l < 256 ^ l.length := by
  induction l with
  | nil => simp [word]
  | cons b l ih =>
    have := b.toNat_lt
    simp only [word, List.length_cons, Nat.pow_succ]
    omega
theorem word_inj {l m : List UInt8} (hl : l.length = m.length) (h : word l = word m) : l = m := by
  induction l generalizing m with
  | nil => exact (List.length_eq_zero_iff.1 hl.symm).symm
  | cons b l ih =>
    cases m with
    | nil => simp at hl
    | cons c m =>
      have h1 := b.toNat_lt; have h2 := c.toNat_lt
      simp only [word] at h
      have hb : b.toNat = c.toNat := by omega
      have hw : word l = word m := by omega
      rw [UInt8.toNat_inj.1 hb, ih (by simpa using hl) hw]

/-- Four bytes at most are one word that goes through the sum's steps. -/
theorem foldW_word (l : List UInt8) (hl : l.length ≤ 4) (c : BitVec 32) : foldW c l = halves (8 * l.length) (c ^^^ BitVec.ofNat 32 (word l)) := by
  induction l generalizing c with
  | nil => simp [foldW, halves, word]
  | cons b l ih =>
    have hl' : l.length ≤ 3 := by simpa using hl
    rw [foldW_cons, ih (by omega), stepW]
    have hw := word_lt l
    have hw2 : word l < 2 ^ 24 := by
      refine Nat.lt_of_lt_of_le hw ?_
      calc 256 ^ l.length ≤ 256 ^ 3 := Nat.pow_le_pow_right (by decide) hl'
        _ = 2 ^ 24 := by decide
    have hn : (BitVec.ofNat 32 (word l)).toNat = word l := by rw [BitVec.toNat_ofNat, Nat.mod_eq_of_lt (by omega)]
    have hup : halves 8 (BitVec.ofNat 32 (word l) <<< 8) = BitVec.ofNat 32 (word l) := halves_up 8 (by rw [hn]; exact hw2) (by decide)
    rw [← hup, ← halves_xor, ← halves_add, List.length_cons, show 8 * l.length + 8 = 8 * (l.length + 1) from by omega, BitVec.xor_assoc]
    congr 2
    apply BitVec.eq_of_toNat_eq
    have hb := b.toNat_lt
    rw [BitVec.toNat_xor, BitVec.toNat_shiftLeft, hn, Nat.shiftLeft_eq, z8, BitVec.toNat_ofNat, BitVec.toNat_ofNat, word]
    rw [Nat.mod_eq_of_lt (show word l * 2 ^ 8 < 2 ^ 32 from by omega), Nat.mod_eq_of_lt (show b.toNat < 2 ^ 32 from by omega), Nat.mod_eq_of_lt (show b.toNat + 256 * word l < 2 ^ 32 from by omega)]
    have hx : b.toNat ^^^ word l * 2 ^ 8 = b.toNat + word l * 2 ^ 8 := by
      have h1 : b.toNat &&& word l * 2 ^ 8 = 0 := by
        apply Nat.eq_of_testBit_eq
        intro i
        rw [Nat.testBit_and, Nat.zero_testBit, ← Nat.shiftLeft_eq, Nat.testBit_shiftLeft]
        by_cases h8 : 8 ≤ i
        · rw [Nat.testBit_lt_two_pow (Nat.lt_of_lt_of_le hb (Nat.pow_le_pow_right (by decide) h8))]; rfl
        · simp [h8]
      have h2 : b.toNat ||| word l * 2 ^ 8 = b.toNat + word l * 2 ^ 8 := by
        rw [Nat.mul_comm (word l) (2 ^ 8), Nat.or_comm, Nat.add_comm]; exact (Nat.two_pow_add_eq_or_of_lt hb (word l)).symm
      rw [← h2]
      apply Nat.eq_of_testBit_eq
      intro i
      have h3 := congrArg (·.testBit i) h1
      simp only [Nat.testBit_and, Nat.zero_testBit] at h3
      rw [Nat.testBit_xor, Nat.testBit_or]
      revert h3
      cases b.toNat.testBit i <;> cases (word l * 2 ^ 8).testBit i <;> decide
    rw [hx]; omega

/-- Texts that differ within four bytes side by side have other sums. -/
theorem sumW_burst (l w v r : List UInt8) (hw : w.length ≤ 4) (hv : v.length = w.length) : sumW (l ++ w ++ r) = sumW (l ++ v ++ r) ↔ w = v := by
  constructor
  · intro h
    have h1 := xor_right_inj h
    rw [foldW_append, foldW_append, foldW_append, foldW_append] at h1
    have h2 := foldW_inj r h1
    rw [foldW_word w hw, foldW_word v (by omega), hv] at h2
    have h3 := xor_left_inj (halves_inj _ h2)
    have h4 := congrArg BitVec.toNat h3
    have hb : ∀ x : List UInt8, x.length ≤ 4 → word x < 2 ^ 32 := fun x hx => by
      refine Nat.lt_of_lt_of_le (word_lt x) ?_
      calc 256 ^ x.length ≤ 256 ^ 4 := Nat.pow_le_pow_right (by decide) hx
        _ = 2 ^ 32 := by decide
    rw [BitVec.toNat_ofNat, BitVec.toNat_ofNat, Nat.mod_eq_of_lt (hb w hw), Nat.mod_eq_of_lt (hb v (by omega))] at h4
    exact word_inj hv.symm h4
  · rintro rfl; rfl

/-- Bit by bit, of three texts of one length. -/
theorem z8_xor (a b : UInt8) : z8 (a ^^^ b) = z8 a ^^^ z8 b := by
  apply BitVec.eq_of_toNat_eq
  rw [BitVec.toNat_xor, z8, z8, z8, BitVec.toNat_ofNat, BitVec.toNat_ofNat, BitVec.toNat_ofNat, UInt8.toNat_xor]
  have := a.toNat_lt; have := b.toNat_lt
  have h3 : a.toNat ^^^ b.toNat < 2 ^ 8 := Nat.xor_lt_two_pow (by omega) (by omega)
  rw [Nat.mod_eq_of_lt (by omega), Nat.mod_eq_of_lt (by omega), Nat.mod_eq_of_lt (by omega)]
theorem stepW_xor (a b : BitVec 32) (x y : UInt8) : stepW (a ^^^ b) (x ^^^ y) = stepW a x ^^^ stepW b y := by
  unfold stepW
  rw [z8_xor, ← halves_xor]
  congr 1
  rw [BitVec.xor_assoc, ← BitVec.xor_assoc b, BitVec.xor_comm b, BitVec.xor_assoc (z8 x) b, ← BitVec.xor_assoc]
theorem foldW_xor (f g : Nat → UInt8) (n : Nat) (a b : BitVec 32) : foldW (a ^^^ b) (upto (fun i => f i ^^^ g i) n) = foldW a (upto f n) ^^^ foldW b (upto g n) := by
  induction n with
  | zero => rfl
  | succ n ih => rw [upto_succ, upto_succ, upto_succ, foldW_snoc, foldW_snoc, foldW_snoc, ih, stepW_xor]
theorem sumW_three (f g h : Nat → UInt8) (n : Nat) : sumW (upto (fun i => f i ^^^ g i ^^^ h i) n) = sumW (upto f n) ^^^ sumW (upto g n) ^^^ sumW (upto h n) := by
  unfold sumW
  have h1 := foldW_xor (fun i => f i ^^^ g i) h n (0xFFFFFFFF#32 ^^^ 0xFFFFFFFF#32) 0xFFFFFFFF#32
  have h2 := foldW_xor f g n 0xFFFFFFFF#32 0xFFFFFFFF#32
  rw [show (0xFFFFFFFF#32 ^^^ 0xFFFFFFFF#32 ^^^ 0xFFFFFFFF#32 : BitVec 32) = 0xFFFFFFFF#32 from by decide] at h1
  rw [h1, h2]
  generalize foldW 0xFFFFFFFF#32 (upto f n) = A
  generalize foldW 0xFFFFFFFF#32 (upto g n) = B
  generalize foldW 0xFFFFFFFF#32 (upto h n) = C
  generalize (0xFFFFFFFF#32 : BitVec 32) = M
  apply BitVec.eq_of_getLsbD_eq
  intro i hi
  simp only [BitVec.getLsbD_xor]
  cases A.getLsbD i <;> cases B.getLsbD i <;> cases C.getLsbD i <;> cases M.getLsbD i <;> rfl
end Go.Proofs.YthmpjoiifglbjaaGreat

/- Numbers as bytes, as the document says it: plain laws, no statement is proved here. -/
import Derived.Test.YtdfacpppmfoiiaaBytes
namespace Go.Proofs.Ytdfacpppmfoiiaa
set_option linter.unusedVariables false

/-- The lowest w bytes of a number, the greatest one first. -/
def putL (n : Nat) : Nat → List UInt8
  | 0 => []
  | w + 1 => UInt8.ofNat (n / 256 ^ w) :: putL n w
/-- The number that bytes say, the greatest one first. -/
def getN (l : List UInt8) : Nat := l.foldl (fun a b => 256 * a + b.toNat) 0
def clampW (w : Int) : Nat := (max 0 (min w 8)).toNat
def putB (n : Nat) (w : Int) : ByteArray := bs (putL n (clampW w))
def getB (s : ByteArray) : Nat := getN (bl s) % 18446744073709551616
def fAt (s : ByteArray) (q w : Int) : Nat := if 0 ≤ q ∧ 1 ≤ w ∧ q + w ≤ s.size then getB (s.extract q.toNat (q + w).toNat) else 0
def signedI (n : Nat) (w : Int) : Int :=
  if w < 1 then 0 else if 2 * (n % 256 ^ (clampW w)) < 256 ^ (clampW w) then ((n % 256 ^ (clampW w) : Nat) : Int) else ((n % 256 ^ (clampW w) : Nat) : Int) - ((256 ^ (clampW w) : Nat) : Int)
def u64N (n : Int) : Nat := (n % 18446744073709551616).toNat
def wideB (n w : Int) : Bool := signedI (getB (putB (u64N n) w)) w == n

theorem getN_fold (l : List UInt8) (a : Nat) : l.foldl (fun a b => 256 * a + b.toNat) a = a * 256 ^ l.length + getN l := by
  induction l generalizing a with
  | nil => simp [getN]
  | cons b l ih =>
    unfold getN
    simp only [List.foldl_cons, List.length_cons]
    rw [ih, ih (256 * 0 + b.toNat), Nat.pow_succ, Nat.add_mul, Nat.mul_zero, Nat.zero_add, Nat.mul_comm 256 a, Nat.mul_assoc a 256, Nat.mul_comm 256 (256 ^ l.length)]
    omega
theorem getN_nil : getN [] = 0 := rfl
theorem getN_append (l m : List UInt8) : getN (l ++ m) = getN l * 256 ^ m.length + getN m := by
  unfold getN; rw [List.foldl_append, getN_fold]; rfl
theorem getN_cons (b : UInt8) (l : List UInt8) : getN (b :: l) = b.toNat * 256 ^ l.length + getN l := by
  have := getN_append [b] l
  simpa [getN] using this
theorem getN_snoc (l : List UInt8) (b : UInt8) : getN (l ++ [b]) = 256 * getN l + b.toNat := by
  rw [getN_append]; simp [getN]; omega
theorem getN_lt (l : List UInt8) : getN l < 256 ^ l.length := by
  induction l with
  | nil => simp [getN]
  | cons b l ih =>
    rw [getN_cons, List.length_cons, Nat.pow_succ]
    have := b.toNat_lt
    have h : b.toNat * 256 ^ l.length ≤ 255 * 256 ^ l.length := Nat.mul_le_mul_right _ (by omega)
    omega
theorem putL_length (n w : Nat) : (putL n w).length = w := by
  induction w with
  | zero => rfl
  | succ w ih => simp [putL, ih]
theorem getN_putL (n w : Nat) : getN (putL n w) = n % 256 ^ w := by
  induction w with
  | zero => simp [putL, getN, Nat.mod_one]
  | succ w ih =>
    rw [putL, getN_cons, putL_length, ih, Nat.mod_pow_succ, UInt8.toNat_ofNat', Nat.mul_comm]
    exact Nat.add_comm _ _
theorem putL_add (c n w : Nat) : putL (c * 256 ^ w + n) w = putL n w := by
  have key : ∀ k, k ≤ w → putL (c * 256 ^ w + n) k = putL n k := by
    intro k
    induction k with
    | zero => intro _; rfl
    | succ k ih =>
      intro hk
      have h1 : (c * 256 ^ w + n) / 256 ^ k = c * 256 ^ (w - k) + n / 256 ^ k := by
        rw [show w = k + (w - k) from by omega, Nat.pow_add, Nat.mul_comm (256 ^ k), ← Nat.mul_assoc, Nat.add_comm, Nat.add_mul_div_right _ _ (Nat.pow_pos (by decide)), Nat.add_comm, show k + (w - k) - k = w - k from by omega]
      have h2 : 256 ^ (w - k) = 256 ^ (w - k - 1) * 256 := by rw [← Nat.pow_succ]; congr 1; omega
      rw [putL, putL, ih (by omega), h1]
      congr 1
      apply UInt8.toNat_inj.1
      rw [UInt8.toNat_ofNat', UInt8.toNat_ofNat', h2, ← Nat.mul_assoc]
      omega
  exact key w (Nat.le_refl _)
theorem putL_getN (l : List UInt8) : putL (getN l) l.length = l := by
  induction l with
  | nil => rfl
  | cons b l ih =>
    rw [List.length_cons, putL, getN_cons, putL_add, ih]
    congr 1
    have h : (b.toNat * 256 ^ l.length + getN l) / 256 ^ l.length = b.toNat := by
      rw [Nat.add_comm, Nat.add_mul_div_right _ _ (Nat.pow_pos (by decide)), Nat.div_eq_of_lt (getN_lt l), Nat.zero_add]
    rw [h]; simp
theorem putL_split (n a b : Nat) : putL n (a + b) = putL (n / 256 ^ b) a ++ putL n b := by
  induction a with
  | zero => simp [putL]
  | succ a ih =>
    rw [show a + 1 + b = (a + b) + 1 from by omega, putL, ih, putL, List.cons_append]
    congr 2
    rw [Nat.div_div_eq_div_mul, ← Nat.pow_add, Nat.add_comm]
theorem getN_inj {l m : List UInt8} (hl : l.length = m.length) (h : getN l = getN m) : l = m := by
  rw [← putL_getN l, ← putL_getN m, hl, h]

theorem clampW_in {w : Nat} (h : w ≤ 8) : clampW (w : Int) = w := by unfold clampW; omega
theorem putB_size (n : Nat) (w : Int) : (putB n w).size = clampW w := by rw [putB, bs_size, putL_length]
theorem bl_putB (n : Nat) (w : Int) : bl (putB n w) = putL n (clampW w) := bl_bs _
theorem pow256_le {k : Nat} (h : k ≤ 8) : 256 ^ k ≤ 18446744073709551616 := by
  have : (256 : Nat) ^ k ≤ 256 ^ 8 := Nat.pow_le_pow_right (by decide) h
  exact this
theorem getB_putB {n w : Nat} (h : w ≤ 8) : getB (putB n (w : Int)) = n % 256 ^ w := by
  rw [getB, bl_putB, getN_putL, clampW_in h]
  exact Nat.mod_eq_of_lt (Nat.lt_of_lt_of_le (Nat.mod_lt _ (Nat.pow_pos (by decide))) (pow256_le h))
theorem getB_small {s : ByteArray} (h : s.size ≤ 8) : getB s = getN (bl s) := by
  have := getN_lt (bl s)
  rw [bl_length] at this
  exact Nat.mod_eq_of_lt (Nat.lt_of_lt_of_le this (pow256_le h))
theorem putB_getB {s : ByteArray} (h : s.size ≤ 8) : putB (getB s) (s.size : Int) = s := by
  rw [getB_small h, putB, clampW_in h, ← bl_length, putL_getN, bs_bl]
theorem getB_append {a b : ByteArray} : getB (a ++ b) = (getB a * 256 ^ b.size + getB b) % 18446744073709551616 := by
  unfold getB
  rw [bl_append, getN_append, bl_length]
  simp [Nat.add_mod, Nat.mul_mod]
theorem tl_bl (s : ByteArray) : s.toList = bl s := by rw [ByteArray.toList_eq]; rfl
theorem bytesLess_getN {l m : List UInt8} (h : l.length = m.length) : Op.bytesLess l m = decide (getN l < getN m) := by
  induction l generalizing m with
  | nil =>
    cases m with
    | nil => rfl
    | cons c m => simp at h
  | cons b l ih =>
    cases m with
    | nil => simp at h
    | cons c m =>
      have h' : l.length = m.length := by simpa using h
      have h1 := getN_lt l
      have h2 := getN_lt m
      rw [Op.bytesLess, ih h', getN_cons, getN_cons, h']
      rw [h'] at h1
      generalize 256 ^ m.length = p at *
      generalize getN l = x at *
      generalize getN m = y at *
      rw [Bool.eq_iff_iff]
      simp only [Bool.or_eq_true, Bool.and_eq_true, decide_eq_true_eq, beq_iff_eq, UInt8.lt_iff_toNat_lt]
      rcases Nat.lt_trichotomy b.toNat c.toNat with k | k | k
      · have : (b.toNat + 1) * p ≤ c.toNat * p := Nat.mul_le_mul_right _ k
        rw [Nat.add_mul, Nat.one_mul] at this
        exact ⟨fun _ => by omega, fun _ => Or.inl k⟩
      · have e : b = c := UInt8.toNat_inj.1 k
        subst e
        constructor
        · rintro (h | ⟨_, h⟩) <;> omega
        · intro h; exact Or.inr ⟨rfl, by omega⟩
      · have : (c.toNat + 1) * p ≤ b.toNat * p := Nat.mul_le_mul_right _ k
        rw [Nat.add_mul, Nat.one_mul] at this
        constructor
        · rintro (h | ⟨e, h⟩)
          · omega
          · subst e; omega
        · intro h; omega
theorem putB_less {a b : Nat} (ha : a < 18446744073709551616) (hb : b < 18446744073709551616) : Op.bytesLess (putB a 8).toList (putB b 8).toList = decide (a < b) := by
  have c8 : clampW 8 = 8 := rfl
  rw [tl_bl, tl_bl, bl_putB, bl_putB, bytesLess_getN (by rw [putL_length, putL_length]), getN_putL, getN_putL, c8, Nat.mod_eq_of_lt ha, Nat.mod_eq_of_lt hb]
theorem beq_lists {a b : ByteArray} : (a.toList == b.toList) = decide (a = b) := by
  rw [tl_bl, tl_bl, Bool.eq_iff_iff, beq_iff_eq, decide_eq_true_eq]
  exact ⟨bl_inj, fun h => by rw [h]⟩
theorem putB_same {a b : Nat} (ha : a < 18446744073709551616) (hb : b < 18446744073709551616) : ((putB a 8).toList == (putB b 8).toList) = ((a : Int) == (b : Int)) := by
  rw [beq_lists, Bool.eq_iff_iff, decide_eq_true_eq, beq_iff_eq]
  constructor
  · intro h
    have h1 := getB_putB (n := a) (w := 8) (Nat.le_refl _)
    have h2 := getB_putB (n := b) (w := 8) (Nat.le_refl _)
    have h3 : putB a ((8 : Nat) : Int) = putB b ((8 : Nat) : Int) := h
    rw [h3, h2] at h1
    omega
  · intro h
    have : a = b := by omega
    rw [this]
theorem u64N_lt (n : Int) : u64N n < 18446744073709551616 := by unfold u64N; omega
theorem u64N_cast (n : Int) : ((u64N n : Nat) : Int) = n % 18446744073709551616 := by unfold u64N; omega
theorem fAt_in {s : ByteArray} {q w : Nat} (hw : 1 ≤ w) (h : q + w ≤ s.size) : fAt s q w = getB (s.extract q (q + w)) := by
  unfold fAt; rw [if_pos (by omega)]; congr 2
theorem fAt_none {s : ByteArray} {q w : Int} (h : ¬ (0 ≤ q ∧ 1 ≤ w ∧ q + w ≤ s.size)) : fAt s q w = 0 := if_neg h
/-- The first and the last bytes of a number's eight. -/
theorem put_high {n w : Nat} (hn : n < 18446744073709551616) (hw : w ≤ 7) : fAt (putB n 8) 0 ((8 - w : Nat) : Int) = n / 256 ^ w := by
  have hz : (putB n 8).size = 8 := putB_size n 8
  rw [show (0 : Int) = ((0 : Nat) : Int) from rfl, fAt_in (by omega) (by omega), getB_small (by simp; omega), bl_extract, bl_putB]
  have c8 : clampW 8 = 8 := rfl
  rw [c8, show putL n 8 = putL n ((8 - w) + w) from by congr 1; omega, putL_split, List.drop_zero, Nat.zero_add, List.take_left' (putL_length _ _), getN_putL]
  apply Nat.mod_eq_of_lt
  rw [Nat.div_lt_iff_lt_mul (Nat.pow_pos (by decide)), ← Nat.pow_add, show 8 - w + w = 8 from by omega]
  exact hn
theorem put_low {n w : Nat} (hw : 1 ≤ w ∧ w ≤ 8) : fAt (putB n 8) ((8 - w : Nat) : Int) (w : Int) = n % 256 ^ w := by
  have hz : (putB n 8).size = 8 := putB_size n 8
  rw [fAt_in (by omega) (by omega), getB_small (by simp; omega), bl_extract, bl_putB]
  have c8 : clampW 8 = 8 := rfl
  rw [c8, show putL n 8 = putL n ((8 - w) + w) from by congr 1; omega, putL_split, List.take_of_length_le (by rw [List.length_append, putL_length, putL_length]; omega), List.drop_left' (putL_length _ _), getN_putL]
/-- The last bytes of two texts, one behind the other. -/
theorem at_behind {a b : ByteArray} (hb : 1 ≤ b.size) : fAt (a ++ b) (a.size : Int) (b.size : Int) = getB b := by
  rw [fAt_in hb (by simp)]
  congr 1
  apply bl_inj
  rw [bl_extract, bl_append, List.take_of_length_le (by rw [List.length_append, bl_length, bl_length]; omega), List.drop_left' (bl_length _)]
theorem wide_of {n : Int} {w : Nat} (h1 : 1 ≤ w) (h8 : w ≤ 8) : signedI (getB (putB (u64N n) (w : Int))) (w : Int) = if 2 * (u64N n % 256 ^ w) < 256 ^ w then ((u64N n % 256 ^ w : Nat) : Int) else ((u64N n % 256 ^ w : Nat) : Int) - ((256 ^ w : Nat) : Int) := by
  rw [getB_putB h8, signedI, if_neg (by omega), clampW_in h8, Nat.mod_mod]
theorem parts_or {a b : ByteArray} (k : Nat) (hk : k ≤ 7) (h : b.size = k) : ((getB (a ++ b) : Nat) : Int) = bits .or .u64 (IntKind.u64.wrap (((getB a * 256 ^ k : Nat)) : Int)) (getB b : Int) := by
  have hb : getB b < 256 ^ k := by have := getN_lt (bl b); rw [bl_length, h] at this; rw [getB_small (by omega)]; exact this
  have hw : IntKind.u64.wrap (((getB a * 256 ^ k : Nat)) : Int) = ((getB a * 256 ^ k % 18446744073709551616 : Nat) : Int) := by
    simp [IntKind.wrap, IntKind.signed, IntKind.bits]
  have hp : 256 ^ k = 2 ^ (8 * k) := by rw [Nat.pow_mul]
  have hm : getB a * 256 ^ k % 18446744073709551616 = 2 ^ (8 * k) * (getB a % 2 ^ (64 - 8 * k)) := by
    rw [show 18446744073709551616 = 2 ^ (8 * k) * 2 ^ (64 - 8 * k) from by rw [← Nat.pow_add, show 8 * k + (64 - 8 * k) = 64 from by omega], hp, Nat.mul_comm, Nat.mul_mod_mul_left]
  have hlt : getB a * 256 ^ k % 18446744073709551616 < 18446744073709551616 := Nat.mod_lt _ (by decide)
  rw [hw, u64_or_nat _ _ hlt (show getB b < 18446744073709551616 from Nat.mod_lt _ (by decide)), getB_append, h, Nat.add_mod, Nat.mod_eq_of_lt (show getB b < 18446744073709551616 from Nat.mod_lt _ (by decide))]
  rw [hp] at hb
  rw [hm]
  have hx : 2 ^ (8 * k) * (getB a % 2 ^ (64 - 8 * k)) + getB b = 2 ^ (8 * k) * (getB a % 2 ^ (64 - 8 * k)) ||| getB b := Nat.two_pow_add_eq_or_of_lt hb _
  rw [← hx, Nat.mod_eq_of_lt]
  have h1 : getB a % 2 ^ (64 - 8 * k) < 2 ^ (64 - 8 * k) := Nat.mod_lt _ (Nat.pow_pos (by decide))
  have h2 : 2 ^ (8 * k) * (getB a % 2 ^ (64 - 8 * k) + 1) ≤ 2 ^ (8 * k) * 2 ^ (64 - 8 * k) := Nat.mul_le_mul_left _ h1
  rw [← Nat.pow_add, show 8 * k + (64 - 8 * k) = 64 from by omega, Nat.mul_add, Nat.mul_one] at h2
  omega
end Go.Proofs.Ytdfacpppmfoiiaa

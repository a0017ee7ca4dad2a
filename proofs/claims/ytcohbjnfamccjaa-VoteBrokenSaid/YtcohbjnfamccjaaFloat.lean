/- Numbers with a fraction, in units of the least one: what a word stands for, how two compare, what is exact, how sums are rounded; plain laws, no statement is proved here. -/
import Derived.WalkLawsBesides
namespace Go.Proofs.Ytcohbjnfamccjaa
open Ieee
set_option linter.unusedVariables false
set_option linter.unusedSimpArgs false

/-- The units that a rung stands for. -/
def mu (r : Nat) : Nat := if r < 2 ^ 52 then r else (2 ^ 52 + r % 2 ^ 52) * 2 ^ (r / 2 ^ 52 - 1)
/-- A power of two, kept as it is. -/
def pw (t : Nat) : Nat := 2 ^ t
def infR : Nat := 2047 * 2 ^ 52
def rungOf (w : Nat) : Nat := w % 2 ^ 63
def negOf (w : Nat) : Bool := w / 2 ^ 63 % 2 == 1
def isNum (w : Nat) : Prop := rungOf w ≤ infR
def sgn (neg : Bool) (n : Nat) : Int := if neg then -(n : Int) else (n : Int)
/-- What a word stands for, in units; an infinity stands for one binade more than the greatest. -/
def fv (w : Nat) : Int := sgn (negOf w) (mu (rungOf w))

theorem two52 : (2 : Nat) ^ 52 = 4503599627370496 := by decide
theorem mu_low {r : Nat} (h : r < 2 ^ 53) : mu r = r := by
  unfold mu
  split
  · rfl
  · have h1 : r / 2 ^ 52 = 1 := by rw [two52] at *; omega
    have h2 : 2 ^ 52 + r % 2 ^ 52 = r := by rw [two52] at *; omega
    rw [h1, h2]; simp
theorem mu_at {t k : Nat} (h1 : 2 ^ 52 ≤ k) (h2 : k < 2 ^ 53) : mu (t * 2 ^ 52 + k) = k * 2 ^ t := by
  have e1 : ¬ t * 2 ^ 52 + k < 2 ^ 52 := by omega
  have e2 : (t * 2 ^ 52 + k) / 2 ^ 52 = t + 1 := by rw [two52] at *; omega
  have e3 : 2 ^ 52 + (t * 2 ^ 52 + k) % 2 ^ 52 = k := by rw [two52] at *; omega
  unfold mu
  rw [if_neg e1, e2, e3]; rfl
/-- Each rung is a number of fewer than 54 digits, at some place. -/
theorem rung_parts (r : Nat) : ∃ t k, k < 2 ^ 53 ∧ (t = 0 ∨ 2 ^ 52 ≤ k) ∧ r = t * 2 ^ 52 + k ∧ mu r = k * 2 ^ t := by
  by_cases h : r < 2 ^ 53
  · exact ⟨0, r, h, Or.inl rfl, by omega, by rw [mu_low h]; simp⟩
  · refine ⟨r / 2 ^ 52 - 1, 2 ^ 52 + r % 2 ^ 52, ?_, Or.inr (by omega), ?_, ?_⟩
    · rw [two52]; omega
    · rw [two52] at *; omega
    · have := mu_at (t := r / 2 ^ 52 - 1) (k := 2 ^ 52 + r % 2 ^ 52) (by omega) (by rw [two52]; omega)
      rw [← this]; congr 1; rw [two52] at *; omega
theorem mu_step (r : Nat) : mu r < mu (r + 1) := by
  obtain ⟨t, k, h1, h2, rfl, e⟩ := rung_parts r
  rw [e]
  by_cases hk : k + 1 < 2 ^ 53
  · rcases h2 with rfl | h2
    · rw [show 0 * 2 ^ 52 + k + 1 = k + 1 from by omega, mu_low hk]; simp
    · rw [show t * 2 ^ 52 + k + 1 = t * 2 ^ 52 + (k + 1) from by omega, mu_at (by omega) hk, Nat.succ_mul]
      have := Nat.two_pow_pos t
      omega
  · have hk : k = 2 ^ 53 - 1 := by omega
    subst hk
    rw [show t * 2 ^ 52 + (2 ^ 53 - 1) + 1 = (t + 1) * 2 ^ 52 + 2 ^ 52 from by rw [two52]; omega, mu_at (Nat.le_refl _) (by decide), show (2 : Nat) ^ (t + 1) = 2 * 2 ^ t from by rw [Nat.pow_succ, Nat.mul_comm], ← Nat.mul_assoc]
    exact Nat.mul_lt_mul_of_pos_right (by decide) (Nat.two_pow_pos t)
theorem mu_lt {r s : Nat} (h : r < s) : mu r < mu s := by
  induction s with
  | zero => omega
  | succ s ih =>
    by_cases e : r = s
    · subst e; exact mu_step r
    · exact Nat.lt_trans (ih (by omega)) (mu_step s)
theorem mu_le {r s : Nat} (h : r ≤ s) : mu r ≤ mu s := by
  rcases Nat.lt_or_eq_of_le h with h | rfl
  · exact Nat.le_of_lt (mu_lt h)
  · exact Nat.le_refl _
theorem mu_inj {r s : Nat} (h : mu r = mu s) : r = s := by
  rcases Nat.lt_trichotomy r s with k | k | k
  · have := mu_lt k; omega
  · exact k
  · have := mu_lt k; omega
theorem mu_lt_iff {r s : Nat} : mu r < mu s ↔ r < s := ⟨fun h => by
  rcases Nat.lt_or_ge r s with k | k
  · exact k
  · have := mu_le k; omega, mu_lt⟩
theorem mu_le_iff {r s : Nat} : mu r ≤ mu s ↔ r ≤ s := ⟨fun h => by
  rcases Nat.lt_or_ge s r with k | k
  · have := mu_lt k; omega
  · exact k, mu_le⟩
theorem mu_zero : mu 0 = 0 := rfl
/-- What has fewer than 54 digits stands on a rung. -/
theorem rep_rung (t k : Nat) (h : k < 2 ^ 53) : ∃ r, mu r = k * 2 ^ t := by
  induction t generalizing k with
  | zero => exact ⟨k, by rw [mu_low h]; simp⟩
  | succ t ih =>
    by_cases hk : 2 ^ 52 ≤ k
    · exact ⟨(t + 1) * 2 ^ 52 + k, mu_at hk h⟩
    · obtain ⟨r, h1⟩ := ih (2 * k) (by omega)
      exact ⟨r, by rw [h1, show (2 : Nat) ^ (t + 1) = 2 * 2 ^ t from by rw [Nat.pow_succ, Nat.mul_comm], Nat.mul_comm 2 k, Nat.mul_assoc]⟩
theorem mu_pw {t k : Nat} (h1 : 2 ^ 52 ≤ k) (h2 : k < 2 ^ 53) : mu (t * 2 ^ 52 + k) = k * pw t := mu_at h1 h2
theorem mu_inf : mu infR = 2 ^ 52 * pw 2046 := by
  rw [show infR = 2046 * 2 ^ 52 + 2 ^ 52 from by unfold infR; omega]
  exact mu_pw (Nat.le_refl _) (by decide)
theorem rep_fin {t k : Nat} (h : k < 2 ^ 53) (hf : k * 2 ^ t < 2 ^ 52 * pw 2046) : ∃ r, mu r = k * 2 ^ t ∧ r < infR := by
  obtain ⟨r, h1⟩ := rep_rung t k h
  exact ⟨r, h1, mu_lt_iff.1 (by rw [h1, mu_inf]; exact hf)⟩

-- words
theorem f64_format : FloatKind.f64.format = double := rfl
theorem d_width : double.width = 64 := rfl
theorem d_least : double.leastPlace = -1074 := by decide
theorem d_binade : double.binade = 2 ^ 52 := rfl
theorem d_inf : double.infRung = infR := by decide
theorem d_sign : double.signWeight = 2 ^ 63 := rfl
theorem infR_lt : infR < 2 ^ 63 := by decide
theorem d_word (neg : Bool) (r : Nat) : double.word neg r = (if neg then 2 ^ 63 + r else r) := rfl
theorem rung_word {neg : Bool} {r : Nat} (h : r < 2 ^ 63) : rungOf (double.word neg r) = r ∧ negOf (double.word neg r) = neg := by
  rw [d_word]; unfold rungOf negOf
  cases neg
  · simp only [Bool.false_eq_true, if_false]; refine ⟨by omega, ?_⟩
    rw [show r / 2 ^ 63 = 0 from by omega]; rfl
  · simp only [if_true]; refine ⟨by omega, ?_⟩
    rw [show (2 ^ 63 + r) / 2 ^ 63 = 1 from by omega]; rfl
theorem fv_word {neg : Bool} {r : Nat} (h : r < 2 ^ 63) : fv (double.word neg r) = sgn neg (mu r) := by
  unfold fv; rw [(rung_word h).1, (rung_word h).2]
/-- What is read of a word. -/
theorem read_small {w : Nat} (h : rungOf w < 2 ^ 52) : double.read w = .number (negOf w) (rungOf w) (-1074) := by
  unfold Format.read; simp only [d_sign, d_binade, d_least]
  have : w % 2 ^ 63 < 2 ^ 52 := h
  rw [if_pos this]; rfl
theorem read_great {w : Nat} (h : ¬ rungOf w < 2 ^ 52) (h2 : rungOf w < infR) : double.read w = .number (negOf w) (2 ^ 52 + rungOf w % 2 ^ 52) (-1074 + ((rungOf w / 2 ^ 52 - 1 : Nat) : Int)) := by
  unfold Format.read; simp only [d_sign, d_binade, d_least, d_inf]
  have h' : ¬ w % 2 ^ 63 < 2 ^ 52 := h
  have h2' : w % 2 ^ 63 < infR := h2
  rw [if_neg h', if_pos h2']; rfl
theorem read_inf {w : Nat} (h : rungOf w = infR) : double.read w = .infinity (negOf w) := by
  unfold Format.read; simp only [d_sign, d_binade, d_inf]
  have h1 : ¬ w % 2 ^ 63 < 2 ^ 52 := by show ¬ rungOf w < 2 ^ 52; rw [h]; decide
  have h2 : ¬ w % 2 ^ 63 < infR := by show ¬ rungOf w < infR; rw [h]; omega
  have h' : w % 2 ^ 63 = infR := h
  rw [if_neg h1, if_neg h2, if_pos h']; rfl
theorem read_nan {w : Nat} (h : infR < rungOf w) : double.read w = .nan (negOf w) (rungOf w - infR) := by
  unfold Format.read; simp only [d_sign, d_binade, d_inf]
  have h1 : ¬ w % 2 ^ 63 < 2 ^ 52 := by show ¬ rungOf w < 2 ^ 52; unfold infR at h; omega
  have h2 : ¬ w % 2 ^ 63 < infR := by show ¬ rungOf w < infR; omega
  have h3 : ¬ w % 2 ^ 63 = infR := by show ¬ rungOf w = infR; omega
  rw [if_neg h1, if_neg h2, if_neg h3]; rfl
/-- A number: its digits, and how many units each is worth. -/
theorem read_num {w : Nat} (h : rungOf w < infR) : ∃ m e : Nat, double.read w = .number (negOf w) m (-1074 + (e : Int)) ∧ mu (rungOf w) = m * 2 ^ e ∧ m < 2 ^ 53 ∧ (m = 0 → rungOf w = 0) := by
  by_cases k : rungOf w < 2 ^ 52
  · refine ⟨rungOf w, 0, by rw [read_small k]; rfl, ?_, by omega, fun e => e⟩
    rw [mu_low (by omega)]; simp
  · refine ⟨2 ^ 52 + rungOf w % 2 ^ 52, rungOf w / 2 ^ 52 - 1, read_great k h, ?_, ?_, fun e => ?_⟩
    · unfold mu; rw [if_neg k]
    · rw [two52]; omega
    · rw [two52] at e; omega
theorem signed_sgn (neg : Bool) (m up : Nat) : signed neg m up = sgn neg (m * 2 ^ up) := by
  unfold signed sgn; rw [Nat.shiftLeft_eq]
theorem sgn_mul (neg : Bool) (a b : Nat) : sgn neg (a * b) = sgn neg a * (b : Int) := by
  unfold sgn; cases neg <;> simp [Int.neg_mul]
theorem cmp_int (a b : Int) : compare a b = if a < b then .lt else if a = b then .eq else .gt := rfl
theorem cmp_mul {a b c : Int} (h : 0 < c) : compare (a * c) (b * c) = compare a b := by
  rw [cmp_int, cmp_int]
  have h1 : a * c < b * c ↔ a < b := Int.mul_lt_mul_right h
  have h2 : a * c = b * c ↔ a = b := Int.mul_eq_mul_right_iff (by omega)
  simp only [h1, h2]
theorem fv_num {w : Nat} (h : rungOf w < infR) {m e : Nat} (hm : mu (rungOf w) = m * 2 ^ e) : fv w = sgn (negOf w) m * ((2 ^ e : Nat) : Int) := by
  unfold fv; rw [hm, sgn_mul]
theorem mu_pos {r : Nat} (h : 0 < r) : 0 < mu r := by have := mu_lt h; rw [mu_zero] at this; exact this
/-- How two numbers compare: as what they stand for. -/
theorem order_num {x y : Nat} (hx : isNum x) (hy : isNum y) : double.order x y = some (compare (fv x) (fv y)) := by
  unfold Format.order
  have key : ∀ z, isNum z → rungOf z < infR ∨ rungOf z = infR := fun z h => Nat.lt_or_eq_of_le h
  rcases key x hx with h1 | h1 <;> rcases key y hy with h2 | h2
  · obtain ⟨m, e, r1, m1, _⟩ := read_num h1
    obtain ⟨n, g, r2, n1, _⟩ := read_num h2
    rw [r1, r2, fv_num h1 m1, fv_num h2 n1]
    unfold Datum.order
    simp only [signed_sgn, sgn_mul]
    congr 1
    have hb : ∀ a b : Nat, (-1074 + (a : Int) - min (-1074 + (a : Int)) (-1074 + (b : Int))).toNat = a - min a b := fun a b => by omega
    rw [hb e g, show (-1074 + (g : Int) - min (-1074 + (e : Int)) (-1074 + (g : Int))).toNat = g - min e g from by omega]
    have p : ∀ a b : Nat, b ≤ a → ((2 ^ a : Nat) : Int) = ((2 ^ (a - b) : Nat) : Int) * ((2 ^ b : Nat) : Int) := fun a b h => by
      rw [← Int.natCast_mul, ← Nat.pow_add, Nat.sub_add_cancel h]
    rw [p e (min e g) (by omega), p g (min e g) (by omega), ← Int.mul_assoc, ← Int.mul_assoc, cmp_mul (by have := Nat.two_pow_pos (min e g); omega)]
  · obtain ⟨m, e, r1, m1, _⟩ := read_num h1
    rw [r1, read_inf h2]
    have hlt := mu_lt h1
    unfold fv; rw [h2]
    have hz := mu_pos (show 0 < infR by unfold infR; omega)
    show some (if negOf y = true then Ordering.gt else Ordering.lt) = _
    congr 1; rw [cmp_int]
    unfold sgn
    generalize mu infR = I at *
    generalize mu (rungOf x) = v at *
    cases negOf y <;> cases negOf x <;> simp only [Bool.false_eq_true, if_false, if_true, reduceIte] <;> (try rw [if_pos (by omega)]) <;> (try rw [if_neg (by omega), if_neg (by omega)])
  · obtain ⟨n, g, r2, n1, _⟩ := read_num h2
    rw [r2, read_inf h1]
    have hlt := mu_lt h2
    unfold fv; rw [h1]
    have hz := mu_pos (show 0 < infR by unfold infR; omega)
    show some (if negOf x = true then Ordering.lt else Ordering.gt) = _
    congr 1; rw [cmp_int]
    unfold sgn
    generalize mu infR = I at *
    generalize mu (rungOf y) = v at *
    cases negOf x <;> cases negOf y <;> simp only [Bool.false_eq_true, if_false, if_true, reduceIte] <;> (try rw [if_pos (by omega)]) <;> (try rw [if_neg (by omega), if_neg (by omega)])
  · rw [read_inf h1, read_inf h2]
    unfold fv; rw [h1, h2]
    have hz := mu_pos (show 0 < infR by unfold infR; omega)
    show some (compare (negOf y).toNat (negOf x).toNat) = _
    congr 1; rw [cmp_int]
    unfold sgn
    generalize mu infR = I at *
    cases negOf x <;> cases negOf y <;> simp only [Bool.false_eq_true, if_false, if_true, reduceIte, Int.lt_irrefl] <;> (try rw [if_pos (show -(I : Int) < (I : Int) by omega)]) <;> (try rw [if_neg (show ¬ (I : Int) < -(I : Int) by omega), if_neg (show ¬ (I : Int) = -(I : Int) by omega)]) <;> rfl
theorem order_nan1 {x y : Nat} (h : ¬ isNum x) : double.order x y = none := by
  unfold Format.order; rw [read_nan (show infR < rungOf x from by unfold isNum at h; omega)]; rfl
theorem order_nan2 {x y : Nat} (h : ¬ isNum y) : double.order x y = none := by
  unfold Format.order; rw [read_nan (show infR < rungOf y from by unfold isNum at h; omega)]
  cases double.read x <;> rfl
theorem ord_lt {x y : Nat} (hx : isNum x) (hy : isNum y) : (double.order x y == some .lt) = decide (fv x < fv y) := by
  rw [order_num hx hy, cmp_int]
  by_cases h : fv x < fv y
  · simp [h]
  · by_cases k : fv x = fv y <;> simp [h, k]
theorem ord_gt {x y : Nat} (hx : isNum x) (hy : isNum y) : (double.order x y == some .gt) = decide (fv y < fv x) := by
  rw [order_num hx hy, cmp_int]
  by_cases h : fv x < fv y
  · simp [h]; omega
  · by_cases k : fv x = fv y
    · simp [k]
    · simp [h, k]; omega
theorem ord_eq {x y : Nat} (hx : isNum x) (hy : isNum y) : (double.order x y == some .eq) = decide (fv x = fv y) := by
  rw [order_num hx hy, cmp_int]
  by_cases h : fv x < fv y
  · simp [h]; omega
  · by_cases k : fv x = fv y <;> simp [h, k]
theorem ord_self (x : Nat) : (double.order x x != some .eq) = true ↔ ¬ isNum x := by
  by_cases h : isNum x
  · have := ord_eq h h; simp [bne, this, h]
  · rw [order_nan1 h]; simp [h]
-- rounding
theorem mu_succ {t k : Nat} (h1 : k < 2 ^ 53) (h2 : t = 0 ∨ 2 ^ 52 ≤ k) : mu (t * 2 ^ 52 + k + 1) = (k + 1) * 2 ^ t := by
  by_cases hk : k + 1 < 2 ^ 53
  · rcases h2 with rfl | h2
    · rw [show 0 * 2 ^ 52 + k + 1 = k + 1 from by omega, mu_low hk]; simp
    · rw [show t * 2 ^ 52 + k + 1 = t * 2 ^ 52 + (k + 1) from by omega, mu_at (by omega) hk]
  · have hk : k = 2 ^ 53 - 1 := by omega
    subst hk
    rw [show t * 2 ^ 52 + (2 ^ 53 - 1) + 1 = (t + 1) * 2 ^ 52 + 2 ^ 52 from by rw [two52]; omega, mu_at (Nat.le_refl _) (by decide), show (2 : Nat) ^ (t + 1) = 2 * 2 ^ t from by rw [Nat.pow_succ, Nat.mul_comm], ← Nat.mul_assoc]
theorem mu_here {t k : Nat} (h1 : k < 2 ^ 53) (h2 : t = 0 ∨ 2 ^ 52 ≤ k) : mu (t * 2 ^ 52 + k) = k * 2 ^ t := by
  rcases h2 with rfl | h2
  · rw [show 0 * 2 ^ 52 + k = k from by omega, mu_low h1]; simp
  · exact mu_at h2 h1
theorem log2_le {n : Nat} (h : n ≠ 0) : 2 ^ n.log2 ≤ n ∧ n < 2 ^ (n.log2 + 1) := ⟨Nat.log2_self_le h, Nat.lt_log2_self⟩
/-- What is cut off: the lower whole number, or the one above it; the lower one, where nothing is left. -/
theorem cut_parts (neg : Bool) (n drop : Nat) : ∃ more, Toward.even.cut neg n drop = n / 2 ^ drop + more ∧ more ≤ 1 ∧ (more = 1 → n % 2 ^ drop ≠ 0) := by
  unfold Toward.cut
  simp only [Nat.shiftLeft_eq, Nat.one_mul]
  by_cases h : drop ≤ n.log2 + 2
  · rw [Nat.min_eq_left h]
    refine ⟨_, rfl, Bool.toNat_le _, fun hm hr => ?_⟩
    rw [hr] at hm
    have hp := Nat.two_pow_pos drop
    simp at hm
  · rw [Nat.min_eq_right (by omega)]
    have hl : n < 2 ^ (n.log2 + 1) := Nat.lt_log2_self
    have h2 : (2 : Nat) ^ (n.log2 + 2) = 2 * 2 ^ (n.log2 + 1) := by rw [Nat.pow_succ 2 (n.log2 + 1), Nat.mul_comm]
    have h3 : 2 ^ (n.log2 + 2) ≤ 2 ^ drop := Nat.pow_le_pow_right (by decide) (by omega)
    refine ⟨0, ?_, by omega, fun k => by omega⟩
    rw [Nat.div_eq_of_lt (show n < 2 ^ (n.log2 + 2) by omega), Nat.div_eq_of_lt (show n < 2 ^ drop by omega), Nat.mod_eq_of_lt (show n < 2 ^ (n.log2 + 2) by omega)]
    have a1 : ¬ 2 ^ (n.log2 + 2) < 2 * n := by omega
    simp [a1]
theorem nearest_parts (neg : Bool) (mag : Nat) (place : Int) (p q : Nat) (hpq : place = -1074 + (p : Int) - (q : Int)) :
    ∃ R, double.nearest neg mag place = double.word neg (min R infR) ∧ (∀ r, mu r * 2 ^ q ≤ mag * 2 ^ p → r ≤ R) ∧ (∀ r, mag * 2 ^ p ≤ mu r * 2 ^ q → R ≤ r) := by
  have hq0 := Nat.two_pow_pos q
  by_cases hm : mag = 0
  · subst hm
    refine ⟨0, ?_, fun r h => ?_, fun r _ => Nat.zero_le _⟩
    · unfold Format.nearest; rw [if_pos rfl, Nat.min_eq_left (Nat.zero_le _)]
    · rw [Nat.zero_mul] at h
      rcases Nat.eq_zero_or_pos r with h0 | h0
      · omega
      · have := Nat.mul_pos (mu_pos h0) hq0; omega
  obtain ⟨hl1, hl2⟩ := log2_le hm
  unfold Format.nearest
  rw [if_neg hm]
  simp only [d_least, d_binade, d_inf]
  rw [show double.fractionBits = 52 from rfl]
  generalize hL : mag.log2 = L at *
  obtain ⟨t, ht⟩ : ∃ t : Nat, t = p + L - (52 + q) := ⟨_, rfl⟩
  have hlast : max (place + (L : Int) - ((52 : Nat) : Int)) (-1074) = -1074 + (t : Int) := by rw [hpq]; omega
  rw [hlast]
  obtain ⟨a, ha⟩ : ∃ a : Nat, a = p - (q + t) := ⟨_, rfl⟩
  obtain ⟨b, hb⟩ : ∃ b : Nat, b = q + t - p := ⟨_, rfl⟩
  rw [show (place - (-1074 + (t : Int))).toNat = a from by omega, show (-1074 + (t : Int) - place).toNat = b from by omega, show (-1074 + (t : Int) - -1074).toNat = t from by omega, Nat.shiftLeft_eq]
  obtain ⟨more, hc, hm1, hm2⟩ := cut_parts neg (mag * 2 ^ a) b
  rw [hc]
  obtain ⟨k0, hk0⟩ : ∃ k0, mag * 2 ^ a / 2 ^ b = k0 := ⟨_, rfl⟩
  rw [hk0]
  obtain ⟨X, hX⟩ : ∃ X, mag * 2 ^ p = X := ⟨_, rfl⟩
  rw [hX]
  have hsc : mag * 2 ^ a * 2 ^ (q + t) = X * 2 ^ b := by
    rw [← hX, Nat.mul_assoc, ← Nat.pow_add, Nat.mul_assoc, ← Nat.pow_add, show a + (q + t) = p + b from by omega]
  have hb0 := Nat.two_pow_pos b
  have hqt := Nat.two_pow_pos (q + t)
  have hdm := Nat.div_add_mod (mag * 2 ^ a) (2 ^ b)
  have hml := Nat.mod_lt (mag * 2 ^ a) hb0
  rw [hk0] at hdm
  -- k0 * 2 ^ (q + t) ≤ X < (k0 + 1) * 2 ^ (q + t)
  have lo : k0 * 2 ^ (q + t) ≤ X := by
    refine Nat.le_of_mul_le_mul_right (?_ : _ * 2 ^ b ≤ _ * 2 ^ b) hb0
    rw [← hsc, Nat.mul_right_comm]
    exact Nat.mul_le_mul_right _ (by rw [Nat.mul_comm]; omega)
  have hi : X < (k0 + 1) * 2 ^ (q + t) := by
    refine Nat.lt_of_mul_lt_mul_right (?_ : _ * 2 ^ b < _ * 2 ^ b)
    rw [← hsc, Nat.mul_right_comm (k0 + 1)]
    refine Nat.mul_lt_mul_of_pos_right ?_ hqt
    rw [Nat.add_mul, Nat.mul_comm k0]; omega
  have hXl : 2 ^ (p + L) ≤ X := by rw [← hX, Nat.pow_add, Nat.mul_comm]; exact Nat.mul_le_mul_right _ hl1
  have hXh : X < 2 ^ (p + L + 1) := by
    rw [← hX, show p + L + 1 = p + (L + 1) from by omega, Nat.pow_add, Nat.mul_comm (2 ^ p)]
    exact Nat.mul_lt_mul_of_pos_right hl2 (Nat.two_pow_pos p)
  have k1 : k0 < 2 ^ 53 := by
    refine Nat.lt_of_mul_lt_mul_right (?_ : _ * 2 ^ (q + t) < _ * 2 ^ (q + t))
    rw [← Nat.pow_add]
    exact Nat.lt_of_le_of_lt lo (Nat.lt_of_lt_of_le hXh (Nat.pow_le_pow_right (by decide) (by omega)))
  have k2 : t = 0 ∨ 2 ^ 52 ≤ k0 := by
    rcases Nat.eq_zero_or_pos t with h0 | h0
    · exact Or.inl h0
    · right
      have h1 : 2 ^ 52 * 2 ^ (q + t) < (k0 + 1) * 2 ^ (q + t) := by
        rw [← Nat.pow_add, show 52 + (q + t) = p + L from by omega]
        exact Nat.lt_of_le_of_lt hXl hi
      have := Nat.lt_of_mul_lt_mul_right h1
      omega
  have m0 := mu_here k1 k2
  have m1 := mu_succ k1 k2
  have e0 : mu (t * 2 ^ 52 + k0) * 2 ^ q = k0 * 2 ^ (q + t) := by rw [m0, Nat.mul_assoc, ← Nat.pow_add, Nat.add_comm t q]
  have e1 : mu (t * 2 ^ 52 + k0 + 1) * 2 ^ q = (k0 + 1) * 2 ^ (q + t) := by rw [m1, Nat.mul_assoc, ← Nat.pow_add, Nat.add_comm t q]
  rw [← e0] at lo
  rw [← e1] at hi
  refine ⟨t * 2 ^ 52 + (k0 + more), rfl, fun r h => ?_, fun r h => ?_⟩
  · have := mu_lt_iff.1 (Nat.lt_of_mul_lt_mul_right (Nat.lt_of_le_of_lt h hi))
    omega
  · rcases Nat.lt_or_ge more 1 with hm | hm
    · have := mu_le_iff.1 (Nat.le_of_mul_le_mul_right (Nat.le_trans lo h) hq0)
      omega
    · have hmore : more = 1 := by omega
      have hr := hm2 hmore
      rcases Nat.lt_or_ge (t * 2 ^ 52 + k0) r with h2 | h2
      · omega
      · exfalso
        have h3 := Nat.mul_le_mul_right (2 ^ q) (mu_le h2)
        have h4 : X = k0 * 2 ^ (q + t) := by rw [← e0]; omega
        have h5 : mag * 2 ^ a * 2 ^ (q + t) = (2 ^ b * k0) * 2 ^ (q + t) := by rw [hsc, h4, Nat.mul_right_comm, Nat.mul_comm k0]
        have h6 := Nat.eq_of_mul_eq_mul_right hqt h5
        omega
theorem pw_add (a b : Nat) : pw (a + b) = pw a * pw b := Nat.pow_add 2 a b
theorem pw_pos (a : Nat) : 0 < pw a := Nat.two_pow_pos a
theorem pw_def (a : Nat) : pw a = 2 ^ a := rfl
theorem pw_zero : pw 0 = 1 := rfl
/-- A word that was rounded lies between all that lie about what it was rounded from. -/
def Near (w : Nat) (T : Int) (q : Nat) : Prop :=
  isNum w ∧ w < 2 ^ 64 ∧ (∀ z, isNum z → fv z * ((pw q : Nat) : Int) ≤ T → fv z ≤ fv w) ∧ (∀ z, isNum z → T ≤ fv z * ((pw q : Nat) : Int) → fv w ≤ fv z)
theorem fword_lt (neg : Bool) {r : Nat} (h : r < 2 ^ 63) : double.word neg r < 2 ^ 64 := by
  rw [d_word]; cases neg
  · rw [if_neg (by decide)]; omega
  · rw [if_pos rfl]; omega
theorem fv_nonneg {w : Nat} (h : negOf w = false) : 0 ≤ fv w := by unfold fv; rw [h]; unfold sgn; simp
theorem fv_nonpos {w : Nat} (h : negOf w = true) : fv w ≤ 0 := by unfold fv; rw [h]; unfold sgn; simp
theorem near_val (neg : Bool) (mag : Nat) (place : Int) (p q : Nat) (hpq : place = -1074 + (p : Int) - (q : Int)) : Near (double.nearest neg mag place) (sgn neg (mag * pw p)) q := by
  unfold Near pw
  obtain ⟨R, h0, h1, h2⟩ := nearest_parts neg mag place p q hpq
  have hq0 : 0 < 2 ^ q := Nat.two_pow_pos q
  have hM : min R infR < 2 ^ 63 := by have := infR_lt; omega
  have hfv := fv_word (neg := neg) hM
  rw [h0]
  refine ⟨?_, fword_lt _ hM, fun z hz h => ?_, fun z hz h => ?_⟩
  · unfold isNum; rw [(rung_word hM).1]; omega
  · rw [hfv]
    have hz' : rungOf z ≤ infR := hz
    cases neg
    · show fv z ≤ (mu (min R infR) : Int)
      have h' : fv z * ((2 ^ q : Nat) : Int) ≤ ((mag * 2 ^ p : Nat) : Int) := h
      cases hn : negOf z
      · have e : fv z = (mu (rungOf z) : Int) := by unfold fv; rw [hn]; rfl
        rw [e, ← Int.natCast_mul] at h'
        have := mu_le (Nat.le_min.2 ⟨h1 _ (Int.ofNat_le.1 h'), hz'⟩)
        rw [e]; exact Int.ofNat_le.2 this
      · have := fv_nonpos hn
        omega
    · show fv z ≤ -(mu (min R infR) : Int)
      have h' : fv z * ((2 ^ q : Nat) : Int) ≤ -((mag * 2 ^ p : Nat) : Int) := h
      cases hn : negOf z
      · have e : fv z = (mu (rungOf z) : Int) := by unfold fv; rw [hn]; rfl
        rw [e, ← Int.natCast_mul] at h'
        have e2 : mu (rungOf z) * 2 ^ q = 0 := by omega
        have e3 : mag * 2 ^ p = 0 := by omega
        have := h2 0 (by rw [e3]; exact Nat.zero_le _)
        have e4 : mu (rungOf z) = 0 := by
          rcases Nat.mul_eq_zero.1 e2 with k | k
          · exact k
          · omega
        rw [e, e4, show min R infR = 0 from by omega]; decide
      · have e : fv z = -(mu (rungOf z) : Int) := by unfold fv; rw [hn]; rfl
        rw [e, Int.neg_mul, ← Int.natCast_mul] at h'
        have := h2 (rungOf z) (by omega)
        have := mu_le (show min R infR ≤ rungOf z by omega)
        rw [e]; omega
  · rw [hfv]
    have hz' : rungOf z ≤ infR := hz
    cases neg
    · show (mu (min R infR) : Int) ≤ fv z
      have h' : ((mag * 2 ^ p : Nat) : Int) ≤ fv z * ((2 ^ q : Nat) : Int) := h
      cases hn : negOf z
      · have e : fv z = (mu (rungOf z) : Int) := by unfold fv; rw [hn]; rfl
        rw [e, ← Int.natCast_mul] at h'
        have := h2 (rungOf z) (by omega)
        have := mu_le (show min R infR ≤ rungOf z by omega)
        rw [e]; omega
      · have e : fv z = -(mu (rungOf z) : Int) := by unfold fv; rw [hn]; rfl
        rw [e, Int.neg_mul, ← Int.natCast_mul] at h'
        have e2 : mu (rungOf z) * 2 ^ q = 0 := by omega
        have e3 : mag * 2 ^ p = 0 := by omega
        have := h2 0 (by rw [e3]; exact Nat.zero_le _)
        have e4 : mu (rungOf z) = 0 := by
          rcases Nat.mul_eq_zero.1 e2 with k | k
          · exact k
          · omega
        rw [e, e4, show min R infR = 0 from by omega]; decide
    · show -(mu (min R infR) : Int) ≤ fv z
      have h' : -((mag * 2 ^ p : Nat) : Int) ≤ fv z * ((2 ^ q : Nat) : Int) := h
      cases hn : negOf z
      · have := fv_nonneg hn
        omega
      · have e : fv z = -(mu (rungOf z) : Int) := by unfold fv; rw [hn]; rfl
        rw [e, Int.neg_mul, ← Int.natCast_mul] at h'
        have := mu_le (Nat.le_min.2 ⟨h1 _ (show mu (rungOf z) * 2 ^ q ≤ mag * 2 ^ p by omega), hz'⟩)
        rw [e]; omega
/-- What can be told exactly is. -/
theorem Near.exact {w : Nat} {T : Int} {q : Nat} (h : Near w T q) {z : Nat} (hz : isNum z) (e : fv z * ((pw q : Nat) : Int) = T) : fv w = fv z :=
  Int.le_antisymm (h.2.2.2 z hz (by rw [e]; exact Int.le_refl _)) (h.2.2.1 z hz (by rw [e]; exact Int.le_refl _))
/-- There is a word of each value that has fewer than 54 digits. -/
theorem word_of (neg : Bool) {r : Nat} (h : r ≤ infR) : isNum (double.word neg r) ∧ fv (double.word neg r) = sgn neg (mu r) := by
  have hr : r < 2 ^ 63 := by have := infR_lt; omega
  exact ⟨by unfold isNum; rw [(rung_word hr).1]; exact h, fv_word hr⟩
theorem value_of {k t : Nat} (h : k < 2 ^ 53) (hf : k * 2 ^ t < 2 ^ 52 * pw 2046) (neg : Bool) : ∃ z, isNum z ∧ rungOf z < infR ∧ fv z = sgn neg (k * 2 ^ t) := by
  obtain ⟨r, h1, h2⟩ := rep_fin h hf
  have := word_of neg (Nat.le_of_lt h2)
  refine ⟨_, this.1, ?_, by rw [this.2, h1]⟩
  rw [(rung_word (by have := infR_lt; omega)).1]; exact h2
theorem fin_of_lt {w : Nat} (h : isNum w) (k : fv w < (mu infR : Int)) (k2 : -(mu infR : Int) < fv w) : rungOf w < infR := by
  rcases Nat.lt_or_eq_of_le (show rungOf w ≤ infR from h) with e | e
  · exact e
  · exfalso; unfold fv at k k2; rw [e] at k k2; unfold sgn at k k2
    cases hn : negOf w <;> rw [hn] at k k2 <;> simp only [Bool.false_eq_true, if_false, if_true] at k k2 <;> omega
-- sums
theorem sum_near {x y : Nat} (hx : rungOf x < infR) (hy : rungOf y < infR) : ∃ w, double.add x y = some w ∧ Near w (fv x + fv y) 0 := by
  obtain ⟨m, e, r1, m1, _⟩ := read_num hx
  obtain ⟨n, g, r2, n1, _⟩ := read_num hy
  unfold Format.add
  rw [r1, r2]
  unfold Datum.sum
  simp only [Option.map_some, Format.write]
  refine ⟨_, rfl, ?_⟩
  rw [show (-1074 + (e : Int) - min (-1074 + (e : Int)) (-1074 + (g : Int))).toNat = e - min e g from by omega, show (-1074 + (g : Int) - min (-1074 + (e : Int)) (-1074 + (g : Int))).toNat = g - min e g from by omega, show min (-1074 + (e : Int)) (-1074 + (g : Int)) = -1074 + ((min e g : Nat) : Int) from by omega]
  obtain ⟨T, hT⟩ : ∃ T, signed (negOf x) m (e - min e g) + signed (negOf y) n (g - min e g) = T := ⟨_, rfl⟩
  rw [hT]
  have h := near_val (if T = 0 then negOf x && negOf y else decide (T < 0)) T.natAbs (-1074 + ((min e g : Nat) : Int)) (min e g) 0 (by omega)
  have hT' := hT
  rw [signed_sgn, signed_sgn] at hT'
  have hv : sgn (if T = 0 then negOf x && negOf y else decide (T < 0)) (T.natAbs * pw (min e g)) = fv x + fv y := by
    rw [pw_def]
    have p : ∀ a b : Nat, b ≤ a → ((2 ^ a : Nat) : Int) = ((2 ^ (a - b) : Nat) : Int) * ((2 ^ b : Nat) : Int) := fun a b h => by
      rw [← Int.natCast_mul, ← Nat.pow_add, Nat.sub_add_cancel h]
    rw [fv_num hx m1, fv_num hy n1, p e (min e g) (by omega), p g (min e g) (by omega), ← Int.mul_assoc, ← Int.mul_assoc, ← Int.add_mul, ← sgn_mul, ← sgn_mul, hT', sgn_mul]
    congr 1
    by_cases h0 : T = 0
    · subst h0; rw [if_pos rfl]; cases negOf x && negOf y <;> rfl
    · rw [if_neg h0]; by_cases h1 : T < 0
      · rw [decide_eq_true h1]; unfold sgn; rw [if_pos rfl]; omega
      · rw [decide_eq_false h1]; unfold sgn; rw [if_neg (by decide)]; omega
  rw [hv] at h
  exact h
theorem sgn_neg (b : Bool) (n : Nat) : sgn (!b) n = -sgn b n := by cases b <;> simp [sgn]
theorem sgn_xor (a b : Bool) (m n : Nat) : sgn (a ^^ b) (m * n) = sgn a m * sgn b n := by cases a <;> cases b <;> simp [sgn, Int.neg_mul, Int.mul_neg]
-- the opposite
theorem opp_parts {x : Nat} (h : x < 2 ^ 64) : rungOf (Op.negFloat .f64 x) = rungOf x ∧ negOf (Op.negFloat .f64 x) = !negOf x ∧ Op.negFloat .f64 x < 2 ^ 64 := by
  have e : Op.negFloat .f64 x = x ^^^ 2 ^ 63 := rfl
  rw [e]
  unfold rungOf negOf
  refine ⟨?_, ?_, Nat.xor_lt_two_pow h (by decide)⟩
  · rw [Nat.xor_mod_two_pow, Nat.mod_self, Nat.xor_zero]
  · rw [Nat.xor_div_two_pow, Nat.div_self (by decide)]
    have : x / 2 ^ 63 = 0 ∨ x / 2 ^ 63 = 1 := by omega
    rcases this with k | k <;> rw [k] <;> rfl
theorem fv_opp {x : Nat} (h : x < 2 ^ 64) : fv (Op.negFloat .f64 x) = -fv x := by
  obtain ⟨h1, h2, _⟩ := opp_parts h
  unfold fv; rw [h1, h2, sgn_neg]
theorem num_opp {x : Nat} (h : x < 2 ^ 64) : isNum (Op.negFloat .f64 x) ↔ isNum x := by
  unfold isNum; rw [(opp_parts h).1]
-- differences
theorem sub_near {x y : Nat} (hx : rungOf x < infR) (hy : rungOf y < infR) (hy2 : y < 2 ^ 64) : ∃ w, double.sub x y = some w ∧ Near w (fv x - fv y) 0 := by
  have ho := opp_parts hy2
  obtain ⟨w, h1, h2⟩ := sum_near hx (show rungOf (Op.negFloat .f64 y) < infR by rw [ho.1]; exact hy)
  rw [fv_opp hy2, ← Int.sub_eq_add_neg] at h2
  refine ⟨w, ?_, h2⟩
  rw [← h1]
  unfold Format.sub Format.add
  congr 2
  have small : ∀ z, rungOf z < infR → (double.read z = .number (negOf z) (rungOf z) (-1074) ∧ rungOf z < 2 ^ 52) ∨ (double.read z = .number (negOf z) (2 ^ 52 + rungOf z % 2 ^ 52) (-1074 + ((rungOf z / 2 ^ 52 - 1 : Nat) : Int)) ∧ ¬ rungOf z < 2 ^ 52) := fun z hz => by
    by_cases k : rungOf z < 2 ^ 52
    · exact Or.inl ⟨read_small k, k⟩
    · exact Or.inr ⟨read_great k hz, k⟩
  rcases small y hy with ⟨a, k⟩ | ⟨a, k⟩
  · rw [a, read_small (by rw [ho.1]; exact k), ho.1, ho.2.1]; rfl
  · rw [a, read_great (by rw [ho.1]; exact k) (by rw [ho.1]; exact hy), ho.1, ho.2.1]; rfl
-- products
theorem mul_near {x y : Nat} (hx : rungOf x < infR) (hy : rungOf y < infR) : ∃ w, double.mul x y = some w ∧ Near w (fv x * fv y) 1074 := by
  obtain ⟨m, e, r1, m1, _⟩ := read_num hx
  obtain ⟨n, g, r2, n1, _⟩ := read_num hy
  unfold Format.mul
  rw [r1, r2]
  refine ⟨_, rfl, ?_⟩
  have h := near_val (negOf x ^^ negOf y) (m * n) (-1074 + (e : Int) + (-1074 + (g : Int))) (e + g) 1074 (by omega)
  have hv : sgn (negOf x ^^ negOf y) (m * n * pw (e + g)) = fv x * fv y := by
    unfold fv
    rw [pw_def]
    rw [m1, n1, ← sgn_xor, Nat.pow_add]
    congr 1
    rw [Nat.mul_assoc, Nat.mul_assoc, Nat.mul_left_comm n]
  rw [hv] at h
  exact h
/-- 8192, as a word. -/
def w8192 : Nat := 4665729213955833856
theorem read8192 : double.read w8192 = .number false (2 ^ 52) (-39) := by decide
theorem quot_is (D : Nat) (s t : Bool) (m n : Nat) (i j : Int) (hn : n ≠ 0) : Datum.quotient D (.number s m i) (.number t n j) =
    some (.number (s ^^ t) (2 * (m <<< (D + n.log2 - m.log2) / n) + (m <<< (D + n.log2 - m.log2) % n != 0).toNat) (i - j - ((D + n.log2 - m.log2 : Nat) : Int) - 1)) := by
  unfold Datum.quotient; simp only; rw [if_neg hn]
theorem shift_parts (m d b : Nat) : m <<< (d + b) / 2 ^ b = m * 2 ^ d ∧ (m <<< (d + b) % 2 ^ b != 0).toNat = 0 := by
  rw [Nat.shiftLeft_eq, Nat.pow_add, ← Nat.mul_assoc, Nat.mul_div_cancel _ (Nat.two_pow_pos b), Nat.mul_mod_left]
  exact ⟨rfl, rfl⟩
theorem div_near {x : Nat} (hx : rungOf x < infR) : ∃ w, double.div x w8192 = some w ∧ Near w (fv x) 13 := by
  obtain ⟨m, e, r1, m1, mh, _⟩ := read_num hx
  have hl : m.log2 ≤ 52 := by
    by_cases h0 : m = 0
    · subst h0; decide
    · have := (log2_le h0).1
      have := (Nat.pow_lt_pow_iff_right (a := 2) (by decide)).1 (Nat.lt_of_le_of_lt this mh)
      omega
  have h52 : (2 ^ 52 : Nat).log2 = 52 := by decide
  obtain ⟨d, hd⟩ : ∃ d, double.fractionBits + 2 + (2 ^ 52 : Nat).log2 - m.log2 = d + 52 := ⟨54 - m.log2, by rw [h52, show double.fractionBits = 52 from rfl]; omega⟩
  have hd2 : 2 ≤ d := by rw [h52, show double.fractionBits = 52 from rfl] at hd; omega
  have hsp := shift_parts m d 52
  have hQ : double.div x w8192 = some (double.nearest (negOf x ^^ false) (2 * (m * 2 ^ d) + 0) (-1074 + (e : Int) - -39 - ((d + 52 : Nat) : Int) - 1)) := by
    unfold Format.div
    rw [r1, read8192, quot_is _ _ _ _ _ _ _ (show (2 ^ 52 : Nat) ≠ 0 by decide), hd, hsp.1, hsp.2]
    rfl
  have h := near_val (negOf x ^^ false) (2 * (m * 2 ^ d) + 0) (-1074 + (e : Int) - -39 - ((d + 52 : Nat) : Int) - 1) (e + 38) (d + 52) (by omega)
  refine ⟨_, hQ, ?_⟩
  have hv : sgn (negOf x ^^ false) ((2 * (m * 2 ^ d) + 0) * pw (e + 38)) = fv x * ((pw (d + 39) : Nat) : Int) := by
    unfold fv
    have e3 : (2 * (m * 2 ^ d) + 0) * pw (e + 38) = m * 2 ^ e * pw (d + 39) := by
      rw [Nat.add_zero, pw_add, show d + 39 = (d + 1) + 38 from by omega, pw_add (d + 1), pw_add d, pw_def e, pw_def d, show pw 1 = 2 from rfl]
      generalize pw 38 = c
      generalize 2 ^ e = a
      generalize 2 ^ d = b
      simp only [Nat.mul_comm, Nat.mul_left_comm, Nat.mul_assoc]
    rw [m1, ← sgn_mul, show (negOf x ^^ false) = negOf x from by cases negOf x <;> rfl, e3]
  rw [hv] at h
  obtain ⟨a, b, c, f⟩ := h
  have hp : (0 : Int) < ((pw (d + 39) : Nat) : Int) := Int.natCast_pos.2 (pw_pos _)
  have hq : ((pw (d + 52) : Nat) : Int) = ((pw 13 : Nat) : Int) * ((pw (d + 39) : Nat) : Int) := by rw [← Int.natCast_mul, ← pw_add]; congr 2; omega
  refine ⟨a, b, fun z hz k => c z hz ?_, fun z hz k => f z hz ?_⟩
  · rw [hq, ← Int.mul_assoc]; exact Int.mul_le_mul_of_nonneg_right k (Int.le_of_lt hp)
  · rw [hq, ← Int.mul_assoc]; exact Int.mul_le_mul_of_nonneg_right k (Int.le_of_lt hp)
-- whole numbers
theorem int_near (n : Int) : Near (floatOfInt .f64 n) (n * ((pw 1074 : Nat) : Int)) 0 := by
  have h := near_val (decide (n < 0)) n.natAbs 0 1074 0 (by omega)
  have hv : sgn (decide (n < 0)) (n.natAbs * pw 1074) = n * ((pw 1074 : Nat) : Int) := by
    rw [sgn_mul]
    congr 1
    unfold sgn
    by_cases k : n < 0
    · rw [decide_eq_true k, if_pos rfl]; omega
    · rw [decide_eq_false k, if_neg (by decide)]; omega
  rw [hv] at h
  exact h
theorem toInt_is {x : Nat} (hx : rungOf x < infR) {n : Int} (h : n = sgn (negOf x) (mu (rungOf x) / pw 1074)) (h1 : -9223372036854775808 ≤ n) (h2 : n ≤ 9223372036854775807) : floatToIntVal .f64 x .i64 = some n := by
  obtain ⟨m, e, r1, m1, mh, _⟩ := read_num hx
  have ht : (double.read x).toInt .zero = some n := by
    rw [r1, h]
    unfold Datum.toInt Datum.integral
    simp only
    congr 1
    rw [signed_sgn, Nat.pow_zero, Nat.mul_one]
    congr 1
    have hc : ∀ k d : Nat, Toward.zero.cut (negOf x) k d = k / 2 ^ d := fun k d => by
      unfold Toward.cut
      simp only [Nat.shiftLeft_eq, Nat.one_mul, Bool.toNat_false, Nat.add_zero]
      by_cases hk : d ≤ k.log2 + 2
      · rw [Nat.min_eq_left hk]
      · rw [Nat.min_eq_right (by omega)]
        have hl : k < 2 ^ (k.log2 + 1) := Nat.lt_log2_self
        have h3 : 2 ^ (k.log2 + 1) ≤ 2 ^ (k.log2 + 2) := Nat.pow_le_pow_right (by decide) (by omega)
        have h4 : 2 ^ (k.log2 + 2) ≤ 2 ^ d := Nat.pow_le_pow_right (by decide) (by omega)
        rw [Nat.div_eq_of_lt (by omega), Nat.div_eq_of_lt (by omega)]
    rw [hc, m1, Nat.shiftLeft_eq, pw_def]
    by_cases he : e ≤ 1074
    · rw [show (-1074 + (e : Int)).toNat = 0 from by omega, show (-(-1074 + (e : Int))).toNat = 1074 - e from by omega, Nat.pow_zero, Nat.mul_one]
      conv => rhs; rw [show (1074 : Nat) = (1074 - e) + e from by omega, Nat.pow_add, Nat.mul_div_mul_right _ _ (Nat.two_pow_pos e)]
    · rw [show (-1074 + (e : Int)).toNat = e - 1074 from by omega, show (-(-1074 + (e : Int))).toNat = 0 from by omega, Nat.pow_zero, Nat.div_one]
      conv => rhs; rw [show e = (e - 1074) + 1074 from by omega, Nat.pow_add, ← Nat.mul_assoc, Nat.mul_div_cancel _ (Nat.two_pow_pos 1074)]
  unfold floatToIntVal
  rw [show FloatKind.decode .f64 x = double.read x from rfl, ht]
  simp only
  rw [if_pos ⟨h1, h2⟩]
end Go.Proofs.Ytcohbjnfamccjaa

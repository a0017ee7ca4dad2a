/- What math.Round does with the bits of a word; plain laws, no statement is proved here. -/
import Derived.Test.YtcohbjnfamccjaaRound
import Derived.Laws.BitsAllLaws
namespace Go.Proofs.Ytcohbjnfamccjaa
open Ieee
set_option linter.unusedVariables false

theorem and_high (a d : Nat) (ha : a < 2 ^ 64) (hd : d ≤ 64) : a &&& (18446744073709551615 - (2 ^ d - 1)) = a / 2 ^ d * 2 ^ d := by
  have h1 : (18446744073709551615 : Nat) - (2 ^ d - 1) = (2 ^ (64 - d) - 1) * 2 ^ d := by
    have := Nat.pow_sub_mul_pow 2 hd
    have hp := Nat.two_pow_pos d
    rw [Nat.sub_mul, this]; omega
  rw [h1]
  apply Nat.eq_of_testBit_eq
  intro i
  rw [Nat.testBit_and, Nat.testBit_mul_two_pow, Nat.testBit_mul_two_pow, Nat.testBit_two_pow_sub_one, Nat.testBit_div_two_pow]
  by_cases c : d ≤ i
  · rw [Nat.sub_add_cancel c]
    by_cases k : i < 64
    · simp [c, show i - d < 64 - d from by omega]
    · have : a.testBit i = false := Nat.testBit_lt_two_pow (Nat.lt_of_lt_of_le ha (Nat.pow_le_pow_right (by decide) (by omega)))
      simp [this]
  · simp [c]
theorem place_bits (y : Nat) (h : y < 2 ^ 64) : bits .and .u64 ((y : Int) / 4503599627370496) 2047 = ((rungOf y / 2 ^ 52 : Nat) : Int) := by
  have e := u64_and_nat (y / 4503599627370496) 2047 (by omega) (by decide)
  rw [show (2047 : Nat) = 2 ^ 11 - 1 from rfl, Nat.and_two_pow_sub_one_eq_mod] at e
  rw [show ((y : Int) / 4503599627370496) = ((y / 4503599627370496 : Nat) : Int) from by omega]
  refine e.trans ?_
  unfold rungOf; omega
theorem sign_bits (y : Nat) (h : y < 2 ^ 64) : bits .and .u64 (y : Int) 9223372036854775808 = ((double.word (negOf y) 0 : Nat) : Int) := by
  have e := u64_and_nat y 9223372036854775808 h (by decide)
  rw [show (9223372036854775808 : Nat) = 18446744073709551615 - (2 ^ 63 - 1) from rfl, and_high y 63 h (by decide)] at e
  refine e.trans ?_
  rw [d_word]
  unfold negOf
  congr 1
  by_cases c : y / 2 ^ 63 % 2 = 1
  · rw [if_pos (by simp [c])]; omega
  · rw [if_neg (by simp [c])]; omega
theorem one_bits (neg : Bool) : bits .or .u64 ((double.word neg 0 : Nat) : Int) 4607182418800017408 = ((double.word neg (1023 * 2 ^ 52) : Nat) : Int) := by cases neg <;> decide
/-- The bits of a number that has digits behind the point, and ahead of it. -/
theorem mid_bits (y K : Nat) (h : y < 2 ^ 64) (hr : rungOf y < infR) (hE : rungOf y / 2 ^ 52 = K + 1023) (hK : K ≤ 51) : ∃ A : Nat, IntKind.u64.wrap ((y : Int) + 2251799813685248 / 2 ^ K) = (A : Int) ∧ bits .andNot .u64 (A : Int) (4503599627370495 / 2 ^ K) = ((rW y : Nat) : Int) := by
  obtain ⟨d, hd⟩ : ∃ d, d + K = 52 := ⟨52 - K, by omega⟩
  have hp := Nat.two_pow_pos K
  have q1 : (2251799813685248 : Nat) / 2 ^ K = 2 ^ (d - 1) := by
    rw [show (2251799813685248 : Nat) = 2 ^ 51 from rfl, Nat.pow_div (by omega) (by decide)]; congr 1; omega
  have q2 : (4503599627370495 : Nat) / 2 ^ K = 2 ^ d - 1 := by
    have e := Nat.pow_sub_mul_pow 2 (show K ≤ 52 by omega)
    rw [show 52 - K = d from by omega] at e
    have hd2 := Nat.two_pow_pos d
    obtain ⟨D, hD⟩ : ∃ D, 2 ^ d = D + 1 := ⟨2 ^ d - 1, by omega⟩
    rw [hD] at e ⊢
    rw [Nat.add_sub_cancel]
    apply Nat.div_eq_of_lt_le
    · rw [Nat.add_mul, Nat.one_mul] at e; omega
    · rw [e]; decide
  have i1 : (2251799813685248 : Int) / 2 ^ K = ((2 ^ (d - 1) : Nat) : Int) := by rw [← q1]; simp
  have i2 : (4503599627370495 : Int) / 2 ^ K = ((2 ^ d - 1 : Nat) : Int) := by rw [← q2]; simp
  have hs : 2 ^ (d - 1) ≤ 2 ^ 51 := Nat.pow_le_pow_right (by decide) (by omega)
  have hd64 : 2 ^ d ≤ 2 ^ 52 := Nat.pow_le_pow_right (by decide) (by omega)
  have hy : y + 2 ^ (d - 1) < 2 ^ 64 := by unfold rungOf infR at hr; omega
  refine ⟨y + 2 ^ (d - 1), ?_, ?_⟩
  · rw [i1]
    generalize 2 ^ (d - 1) = D at *
    rw [IntKind.wrap_u64]
    omega
  · rw [i2]
    refine (u64_andNot_nat _ (2 ^ d - 1) hy (by omega)).trans ?_
    rw [and_high _ d hy (by omega)]
    congr 1
    unfold rW rR
    rw [if_neg (by omega), if_neg (by omega), hE, show 1074 - (K + 1023) = d - 1 from by omega, show 1075 - (K + 1023) = d from by omega]
    have hw : y = (if negOf y then 2 ^ 63 else 0) + rungOf y := by
      unfold negOf rungOf
      by_cases c : y / 2 ^ 63 % 2 = 1
      · simp [c]; omega
      · simp [c]; omega
    have hdv : (2 : Nat) ^ 63 = 2 ^ d * 2 ^ (63 - d) := by rw [← Nat.pow_add]; congr 1; omega
    rw [d_word]
    generalize rungOf y = r at *
    by_cases c : negOf y
    · rw [if_pos c] at hw ⊢
      rw [hw, Nat.add_assoc, Nat.add_comm (2 ^ 63), hdv, Nat.add_mul_div_left _ _ (Nat.two_pow_pos d), Nat.add_mul, Nat.mul_comm (2 ^ (63 - d))]; omega
    · rw [if_neg c] at hw ⊢
      rw [hw, Nat.zero_add]
end Go.Proofs.Ytcohbjnfamccjaa

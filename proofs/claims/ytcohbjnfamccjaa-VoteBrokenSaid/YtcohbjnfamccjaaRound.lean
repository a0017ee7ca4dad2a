/- What math.Round makes of a word, in units of numbers with a fraction; plain laws, no statement is proved here. -/
import Derived.Test.YtcohbjnfamccjaaFixedPlain
namespace Go.Proofs.Ytcohbjnfamccjaa
open Ieee
set_option linter.unusedVariables false

/-- A word without its sign, rounded as math.Round does it. -/
def rR (r : Nat) : Nat := if r / 2 ^ 52 < 1022 then 0 else if r / 2 ^ 52 = 1022 then 1023 * 2 ^ 52 else (r + 2 ^ (1074 - r / 2 ^ 52)) / 2 ^ (1075 - r / 2 ^ 52) * 2 ^ (1075 - r / 2 ^ 52)
theorem mu_whole (t : Nat) : mu (t * 2 ^ 52 + 2 ^ 52) = pw (t + 52) := by rw [mu_pw (Nat.le_refl _) (by decide), ← pw_def 52, ← pw_add, Nat.add_comm]
theorem fhalf_up (m h : Nat) (hh : 0 < h) : (m + h) / (2 * h) = if 2 * h ≤ 2 * (m % (2 * h)) then m / (2 * h) + 1 else m / (2 * h) := by
  have h1 := Nat.div_add_mod m (2 * h)
  have h2 := Nat.mod_lt m (show 2 * h > 0 by omega)
  generalize m / (2 * h) = q at *
  generalize m % (2 * h) = p at *
  have e : m + h = (p + h) + 2 * h * q := by omega
  rw [e, Nat.add_mul_div_left _ _ (by omega)]
  by_cases c : 2 * h ≤ 2 * p
  · rw [if_pos c, Nat.div_eq_of_lt_le (k := 1) (by omega) (by omega), Nat.add_comm]
  · rw [if_neg c, Nat.div_eq_of_lt (by omega), Nat.zero_add]
theorem mu_rR {r : Nat} (hb : mu r ≤ 180 * 8192 * U) : mu (rR r) = rnd (mu r) * U := by
  have hu := U_two
  have hp := pw_pos 1073
  have e1 : mu (1022 * 2 ^ 52) = pw 1073 := mu_whole 1021
  have e2 : mu (1023 * 2 ^ 52) = U := mu_whole 1022
  have e3 : mu (1075 * 2 ^ 52) = pw 1126 := mu_whole 1074
  unfold rR
  by_cases c1 : r / 2 ^ 52 < 1022
  · rw [if_pos c1, mu_zero]
    have h1 : mu r < mu (1022 * 2 ^ 52) := mu_lt (by omega)
    rw [e1] at h1
    have : rnd (mu r) = 0 := by
      unfold rnd
      rw [Nat.mod_eq_of_lt (by omega), if_neg (by omega), Nat.div_eq_of_lt (by omega)]
    rw [this, Nat.zero_mul]
  · rw [if_neg c1]
    by_cases c2 : r / 2 ^ 52 = 1022
    · rw [if_pos c2, e2]
      have h1 : mu (1022 * 2 ^ 52) ≤ mu r := mu_le (by omega)
      have h2 : mu r < mu (1023 * 2 ^ 52) := mu_lt (by omega)
      rw [e1] at h1; rw [e2] at h2
      have : rnd (mu r) = 1 := by
        unfold rnd
        rw [Nat.mod_eq_of_lt h2, if_pos (by omega), Nat.div_eq_of_lt h2]
      rw [this, Nat.one_mul]
    · rw [if_neg c2]
      have hlt : r < 1075 * 2 ^ 52 := by
        apply mu_lt_iff.1
        rw [e3, show (1126 : Nat) = 52 + 1074 from rfl, pw_add]
        refine Nat.lt_of_le_of_lt hb ?_
        have q : 180 * 8192 < pw 52 := by decide
        unfold U
        refine Nat.mul_lt_mul_of_pos_right ?_ (pw_pos _)
        exact q
      obtain ⟨d, t, hd1, hd2, hE, hdt⟩ : ∃ d t, 1 ≤ d ∧ d ≤ 52 ∧ r / 2 ^ 52 = t + 1 ∧ d + t = 1074 := ⟨1075 - r / 2 ^ 52, r / 2 ^ 52 - 1, by omega, by omega, by omega, by omega⟩
      rw [hE, show 1074 - (t + 1) = d - 1 from by omega, show 1075 - (t + 1) = d from by omega]
      obtain ⟨m, hm1, hm2, hm⟩ : ∃ m, 2 ^ 52 ≤ m ∧ m < 2 ^ 53 ∧ r = t * 2 ^ 52 + m := ⟨2 ^ 52 + r % 2 ^ 52, by omega, by omega, by omega⟩
      have hU : U = pw d * pw t := by unfold U; rw [← pw_add, hdt]
      have h2d : (2 : Nat) ^ d = 2 * 2 ^ (d - 1) := by
        obtain ⟨f, rfl⟩ : ∃ f, d = f + 1 := ⟨d - 1, by omega⟩
        rw [Nat.pow_succ, Nat.mul_comm]; rfl
      have h52 : (2 : Nat) ^ 52 = 2 ^ (52 - d) * 2 ^ d := (Nat.pow_sub_mul_pow 2 hd2).symm
      have h53 : (2 : Nat) ^ 53 = 2 ^ (53 - d) * 2 ^ d := (Nat.pow_sub_mul_pow 2 (by omega)).symm
      have hpos : 0 < (2 : Nat) ^ (d - 1) := Nat.two_pow_pos _
      have hk : rnd (mu r) = (m + 2 ^ (d - 1)) / 2 ^ d := by
        rw [hm, mu_pw hm1 hm2]
        unfold rnd
        rw [hU, Nat.mul_mod_mul_right, Nat.mul_div_mul_right _ _ (pw_pos t), ← Nat.mul_assoc]
        rw [h2d, fhalf_up _ _ hpos, ← h2d, pw_def d]
        have : 2 ^ d * pw t ≤ 2 * (m % 2 ^ d) * pw t ↔ 2 ^ d ≤ 2 * (m % 2 ^ d) := ⟨fun k => Nat.le_of_mul_le_mul_right k (pw_pos t), fun k => Nat.mul_le_mul_right _ k⟩
        by_cases c : 2 ^ d ≤ 2 * (m % 2 ^ d)
        · rw [if_pos c, if_pos (this.2 c)]
        · rw [if_neg c, if_neg (fun k => c (this.1 k))]
      have hq : (r + 2 ^ (d - 1)) / 2 ^ d * 2 ^ d = t * 2 ^ 52 + (m + 2 ^ (d - 1)) / 2 ^ d * 2 ^ d := by
        have : r + 2 ^ (d - 1) = (m + 2 ^ (d - 1)) + 2 ^ d * (t * 2 ^ (52 - d)) := by
          rw [hm, h52, ← Nat.mul_assoc t, Nat.mul_comm (t * 2 ^ (52 - d))]; omega
        rw [this, Nat.add_mul_div_left _ _ (Nat.two_pow_pos d), Nat.add_mul, Nat.mul_assoc t, ← h52]; omega
      rw [hq, hk]
      generalize hkk : (m + 2 ^ (d - 1)) / 2 ^ d = k
      have hk1 : 2 ^ (52 - d) ≤ k := by
        rw [← hkk, Nat.le_div_iff_mul_le (Nat.two_pow_pos d), ← h52]; omega
      have hk2 : k ≤ 2 ^ (53 - d) := by
        rw [← hkk]
        apply Nat.le_of_lt_succ
        rw [Nat.div_lt_iff_lt_mul (Nat.two_pow_pos d), Nat.succ_mul, ← h53]
        omega
      have hk3 : 2 ^ 52 ≤ k * 2 ^ d := by rw [h52]; exact Nat.mul_le_mul_right _ hk1
      have hk4 : k * 2 ^ d ≤ 2 ^ 53 := by rw [h53]; exact Nat.mul_le_mul_right _ hk2
      rw [hU, ← Nat.mul_assoc, pw_def d]
      generalize k * 2 ^ d = K at *
      rcases Nat.lt_or_eq_of_le hk4 with k5 | k5
      · exact mu_pw hk3 k5
      · obtain ⟨K', hK'⟩ : ∃ K', K = K' + 1 := ⟨K - 1, by omega⟩
        rw [hK', ← Nat.add_assoc]
        exact mu_succ (by omega) (Or.inr (by omega))
/-- A word, rounded as math.Round does it. -/
def rW (y : Nat) : Nat := double.word (negOf y) (rR (rungOf y))
theorem abs_fv (y : Nat) : (fv y).natAbs = mu (rungOf y) := by unfold fv sgn; split <;> omega
theorem round_is {y : Nat} (hb : (fv y).natAbs ≤ 180 * 8192 * U) : rungOf (rW y) < infR ∧ rW y < 2 ^ 64 ∧ fv (rW y) = sg (fv y) (rnd (fv y).natAbs) * (U : Int) ∧ (fv (rW y)).natAbs ≤ 180 * 8192 * U := by
  rw [abs_fv] at hb
  have h1 := mu_rR hb
  have h2 := rnd_le hb
  have h3 : mu (rR (rungOf y)) ≤ 180 * 8192 * U := by rw [h1]; exact Nat.mul_le_mul_right _ h2
  have h4 : rR (rungOf y) < infR := by
    apply mu_lt_iff.1
    rw [mu_inf]
    exact Nat.lt_of_le_of_lt h3 big_lt
  have h5 : rR (rungOf y) < 2 ^ 63 := Nat.lt_trans h4 infR_lt
  obtain ⟨r1, r2⟩ := rung_word (neg := negOf y) h5
  have hf : fv (rW y) = sgn (negOf y) (mu (rR (rungOf y))) := fv_word h5
  refine ⟨by unfold rW; rw [r1]; exact h4, fword_lt _ h5, ?_, ?_⟩
  · rw [hf, h1, abs_fv, sgn_mul]
    congr 1
    unfold sg
    cases hn : negOf y
    · have := fv_nonneg hn
      rw [if_neg (by omega)]; rfl
    · have := fv_nonpos hn
      by_cases k : fv y < 0
      · rw [if_pos k]; rfl
      · rw [if_neg k]
        have h0 : mu (rungOf y) = 0 := by rw [← abs_fv]; omega
        have : rnd 0 = 0 := by have := rnd_mul 0; rwa [Nat.zero_mul] at this
        rw [h0, this]; rfl
  · rw [abs_fv]; unfold rW; rw [r1]; exact h3
/-- What is rounded is a whole number. -/
theorem round_int {y : Nat} (hb : (fv y).natAbs ≤ 180 * 8192 * U) : floatToIntVal .f64 (rW y) .i64 = some (sg (fv y) (rnd (fv y).natAbs)) := by
  obtain ⟨h1, h2, h3, h4⟩ := round_is hb
  rw [trunc_is h1 h4]
  have hu := U_pos
  have ha : (fv (rW y)).natAbs = rnd (fv y).natAbs * U := by
    rw [h3]; unfold sg; split
    · rw [Int.neg_mul, Int.natAbs_neg]; rfl
    · rfl
  rw [ha, Nat.mul_div_cancel _ hu]
  generalize rnd (fv y).natAbs = n at *
  congr 1
  have hs : fv (rW y) < 0 ↔ (fv y < 0 ∧ n ≠ 0) := by
    rw [h3]; unfold sg
    by_cases k : fv y < 0
    · rw [if_pos k, Int.neg_mul]
      constructor
      · intro l; refine ⟨k, ?_⟩; rintro rfl; simp at l
      · rintro ⟨_, l⟩
        have := Int.mul_pos (show (0 : Int) < (n : Int) by omega) (show (0 : Int) < (U : Int) by omega)
        omega
    · rw [if_neg k]
      have := Int.mul_nonneg (show (0 : Int) ≤ (n : Int) by omega) (show (0 : Int) ≤ (U : Int) by omega)
      constructor
      · intro l; omega
      · intro l; exact absurd l.1 k
  unfold sg
  by_cases k : fv (rW y) < 0
  · rw [if_pos k, if_pos (hs.1 k).1]
  · rw [if_neg k]
    by_cases l : fv y < 0
    · rw [if_pos l]
      have : n = 0 := by
        apply Classical.byContradiction; intro l2; exact k (hs.2 ⟨l, l2⟩)
      omega
    · rw [if_neg l]
end Go.Proofs.Ytcohbjnfamccjaa

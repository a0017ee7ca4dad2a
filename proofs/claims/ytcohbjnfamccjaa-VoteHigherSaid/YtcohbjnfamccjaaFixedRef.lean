/- The document's own answers of layer 13: contracts only. -/
import Derived.Test.YtcohbjnfamccjaaRows
import Derived.Test.YtcohbjnfamccjaaFixedPlain
import Derived.Test.YtcohbjnfamccjaaInts
import Derived.Test.YtcohbjnfamccjaaBase
import Derived.WalkKit
import Derived.ProofKit
import Derived.Lib.Hide
import Derived.WalkLawsBesides
namespace Go.Proofs.Ytcohbjnfamccjaa
open Go.RowKit
set_option linter.unusedVariables false
set_option linter.unusedSimpArgs false

theorem unary_negF (k : FloatKind) (b : Nat) : Op.unary .neg (.float k b) = pure (.float k (Op.negFloat k b)) := rfl
attribute [local go_sem] unary_negF
theorem neF {x : Nat} (h : ¬ isNum x) : (FloatKind.f64.format.order x x != some .eq) = true := (ord_self x).2 h
theorem neT {x : Nat} (h : isNum x) : (FloatKind.f64.format.order x x != some .eq) = false := by
  cases k : (FloatKind.f64.format.order x x != some .eq) with
  | false => rfl
  | true => exact absurd h ((ord_self x).1 k)
theorem ltD {x y : Nat} (hx : isNum x) (hy : isNum y) : (FloatKind.f64.format.order x y == some .lt) = decide (fv x < fv y) := ord_lt hx hy
theorem gtD {x y : Nat} (hx : isNum x) (hy : isNum y) : (FloatKind.f64.format.order x y == some .gt) = decide (fv y < fv x) := ord_gt hx hy
theorem eqD {x y : Nat} (hx : isNum x) (hy : isNum y) : (FloatKind.f64.format.order x y == some .eq) = decide (fv x = fv y) := ord_eq hx hy
theorem geD {x y : Nat} (hx : isNum x) (hy : isNum y) : (FloatKind.f64.format.order x y == some .gt || FloatKind.f64.format.order x y == some .eq) = decide (fv y ≤ fv x) := by
  rw [gtD hx hy, eqD hx hy]; by_cases h : fv y < fv x <;> by_cases k : fv x = fv y <;> simp [h, k] <;> omega
theorem leD {x y : Nat} (hx : isNum x) (hy : isNum y) : (FloatKind.f64.format.order x y == some .lt || FloatKind.f64.format.order x y == some .eq) = decide (fv x ≤ fv y) := by
  rw [ltD hx hy, eqD hx hy]; by_cases h : fv x < fv y <;> by_cases k : fv x = fv y <;> simp [h, k] <;> omega
theorem ltN {x y : Nat} (h : ¬ isNum x ∨ ¬ isNum y) : (FloatKind.f64.format.order x y == some .lt) = false := by
  rcases h with h | h
  · rw [show FloatKind.f64.format.order x y = none from order_nan1 h]; rfl
  · rw [show FloatKind.f64.format.order x y = none from order_nan2 h]; rfl
theorem gtN {x y : Nat} (h : ¬ isNum x ∨ ¬ isNum y) : (FloatKind.f64.format.order x y == some .gt) = false := by
  rcases h with h | h
  · rw [show FloatKind.f64.format.order x y = none from order_nan1 h]; rfl
  · rw [show FloatKind.f64.format.order x y = none from order_nan2 h]; rfl
/-- A whole number of degrees, as a number with a fraction, and its opposite. -/
theorem most_parts {most : Int} (h0 : 0 ≤ most) (h1 : most ≤ 180) : isNum (floatOfInt .f64 most) ∧ fv (floatOfInt .f64 most) = most * (U : Int) ∧ isNum (Op.negFloat .f64 (floatOfInt .f64 most)) ∧ fv (Op.negFloat .f64 (floatOfInt .f64 most)) = -(most * (U : Int)) := by
  obtain ⟨a, b, c, d⟩ := whole most (by omega)
  exact ⟨a, d, (num_opp b).2 a, by rw [fv_opp b, d]⟩
theorem in_fin {x : Nat} {most : Int} (hx : isNum x) (h : inRange x most) : rungOf x < infR ∧ (fv x).natAbs ≤ 180 * U := by
  obtain ⟨h0, h1, h2, h3⟩ := h
  have hm : most * (U : Int) ≤ 180 * (U : Int) := Int.mul_le_mul_of_nonneg_right h1 (by omega)
  have hi : (180 : Int) * (U : Int) < (mu infR : Int) := by
    rw [mu_inf]
    have := big_lt
    have hu := U_pos
    omega
  exact ⟨fin_of_lt hx (by omega) (by omega), by omega⟩

/-- All that is reckoned on the way to a number that is fixed. -/
theorem fix_way {x : Nat} {most : Int} (hx : isNum x) (h : inRange x most) : ∃ y r : Nat, ∃ n : Int, floatBits .mul .f64 x 4665729213955833856 = some y ∧ floatToIntVal .f64 y .i64 = some n ∧ floatBits .sub .f64 y (floatOfInt .f64 n) = some r ∧ isNum r ∧
    n.natAbs ≤ 180 * 8192 ∧ fixV (fv x) = (if (pw 1073 : Int) ≤ fv r then n + 1 else if fv r ≤ -(pw 1073 : Int) then n - 1 else n) := by
  obtain ⟨hf, hb⟩ := in_fin hx h
  obtain ⟨y, y1, y2, y3, y4, y5⟩ := times8192 hf hb
  have hb2 : (fv y).natAbs ≤ 180 * 8192 * U := by rw [y5, Int.natAbs_mul, show ((8192 : Int)).natAbs = 8192 from rfl, Nat.mul_right_comm]; exact Nat.mul_le_mul_right _ hb
  obtain ⟨r, r1, r2, r3, r4, r5⟩ := left_is y4 hb2
  refine ⟨y, r, _, y1, trunc_is y4 hb2, r1, r2, ?_, ?_⟩
  · have hd : (fv y).natAbs / U ≤ 180 * 8192 := by
      have := Nat.div_le_div_right (c := U) hb2
      rwa [Nat.mul_div_cancel _ U_pos] at this
    generalize (fv y).natAbs / U = q at *
    unfold sg; split <;> omega
  · rw [r5]
    have hA : 8192 * (fv x).natAbs = (fv y).natAbs := by rw [y5, Int.natAbs_mul, Nat.mul_comm]; rfl
    have hs : fv x < 0 ↔ fv y < 0 := by rw [y5]; omega
    have hu := U_two
    have hp := pw_pos 1073
    unfold fixV rnd
    rw [hA]
    unfold sg
    generalize (fv y).natAbs / U = q at *
    generalize (fv y).natAbs % U = p at *
    by_cases k : fv y < 0
    · have k' := hs.2 k
      simp only [if_pos k, if_pos k']
      by_cases c : U ≤ 2 * p
      · rw [if_pos c, if_neg (by omega), if_pos (by omega)]; omega
      · rw [if_neg c, if_neg (by omega), if_neg (by omega)]
    · have k' : ¬ fv x < 0 := fun l => k (hs.1 l)
      simp only [if_neg k, if_neg k']
      by_cases c : U ≤ 2 * p
      · rw [if_pos c, if_pos (by omega)]; omega
      · rw [if_neg c, if_neg (by omega), if_neg (by omega)]

theorem top_parts : isNum 9218868437227405311 ∧ fv 9218868437227405311 = (mu (infR - 1) : Int) ∧ isNum 18442240474082181119 ∧ fv 18442240474082181119 = -(mu (infR - 1) : Int) := by
  have hr : infR - 1 < 2 ^ 63 := by have := infR_lt; omega
  have h1 := word_of false (show infR - 1 ≤ infR by omega)
  have h2 := word_of true (show infR - 1 ≤ infR by omega)
  rw [show Ieee.double.word false (infR - 1) = 9218868437227405311 from rfl] at h1
  rw [show Ieee.double.word true (infR - 1) = 18442240474082181119 from rfl] at h2
  exact ⟨h1.1, h1.2, h2.1, h2.2⟩
theorem zero_parts : isNum 0 ∧ fv 0 = 0 := ⟨by unfold isNum rungOf infR; omega, rfl⟩
theorem above_top {x : Nat} (hx : isNum x) : (mu (infR - 1) : Int) < fv x ↔ fv x = (mu infR : Int) := by
  have hm := mu_lt (show infR - 1 < infR by unfold infR; omega)
  constructor
  · intro h
    rcases Nat.lt_or_eq_of_le (show rungOf x ≤ infR from hx) with k | k
    · have := mu_le (show rungOf x ≤ infR - 1 by omega)
      unfold fv sgn at h; split at h <;> omega
    · unfold fv sgn at h ⊢; rw [k] at h ⊢
      split at h
      · omega
      · rename_i c; rw [if_neg c]
  · intro h; omega
theorem below_top {x : Nat} (hx : isNum x) : fv x < -(mu (infR - 1) : Int) ↔ fv x = -(mu infR : Int) := by
  have hm := mu_lt (show infR - 1 < infR by unfold infR; omega)
  constructor
  · intro h
    rcases Nat.lt_or_eq_of_le (show rungOf x ≤ infR from hx) with k | k
    · have := mu_le (show rungOf x ≤ infR - 1 by omega)
      unfold fv sgn at h; split at h <;> omega
    · unfold fv sgn at h ⊢; rw [k] at h ⊢
      split at h
      · rename_i c; rw [if_pos c]
      · omega
  · intro h; omega

/-- A number that n, divided by 8192, is; 0, if n is out of range. -/
def BackOf (n : Int) (w : Nat) : Prop := isNum w ∧ w < 2 ^ 64 ∧ rungOf w < infR ∧ fv w * 8192 = (if -1474560 ≤ n ∧ n ≤ 1474560 then n else 0) * (U : Int)
theorem backZero {n : Int} (h : ¬ (-1474560 ≤ n ∧ n ≤ 1474560)) : BackOf n 0 := by
  refine ⟨zero_parts.1, by decide, by unfold rungOf infR; omega, ?_⟩
  rw [zero_parts.2, if_neg h]; omega
theorem backTell {n : Int} (h : -1474560 ≤ n ∧ n ≤ 1474560) : ∃ w, floatBits .quo .f64 (floatOfInt .f64 n) 4665729213955833856 = some w ∧ BackOf n w := by
  obtain ⟨w, v, h1, h2, h3, h4, h5, h6⟩ := back_is n (by omega)
  exact ⟨w, h1, h2, h3, h4, by rw [if_pos h, h5, h6]⟩

end Go.Proofs.Ytcohbjnfamccjaa

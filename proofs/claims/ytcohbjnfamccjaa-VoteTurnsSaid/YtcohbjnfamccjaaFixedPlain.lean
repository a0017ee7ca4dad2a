/- Degrees as whole numbers, as the document says it, over the units of numbers with a fraction; plain laws, no statement is proved here. -/
import Derived.Test.YtcohbjnfamccjaaFloat
namespace Go.Proofs.Ytcohbjnfamccjaa
open Ieee
set_option linter.unusedVariables false

/-- 1, in units. -/
def U : Nat := pw 1074
/-- The nearest whole number of A units; of two the greater one. -/
def rnd (A : Nat) : Nat := if U ≤ 2 * (A % U) then A / U + 1 else A / U
def sg (v : Int) (n : Nat) : Int := if v < 0 then -(n : Int) else (n : Int)
def fixV (v : Int) : Int := sg v (rnd (8192 * v.natAbs))
def inRange (x : Nat) (most : Int) : Prop := 0 ≤ most ∧ most ≤ 180 ∧ -(most * (U : Int)) ≤ fv x ∧ fv x ≤ most * (U : Int)
instance (x : Nat) (most : Int) : Decidable (inRange x most) := inferInstanceAs (Decidable (_ ∧ _))
instance (x : Nat) : Decidable (isNum x) := inferInstanceAs (Decidable (_ ≤ _))
def fixE (x : Nat) (most : Int) : Int := if ¬ isNum x then 12 else if inRange x most then 0 else 13
def fixN (x : Nat) (most : Int) : Int := if isNum x ∧ inRange x most then fixV (fv x) else 0
def classN (x : Nat) : Int := if ¬ isNum x then 5 else if fv x = (mu infR : Int) then 3 else if fv x = -(mu infR : Int) then 4 else if 0 < fv x then 1 else if fv x < 0 then 2 else 0

theorem U_pos : 0 < U := pw_pos _
theorem fixN_out {x : Nat} {most : Int} (h : fixE x most ≠ 0) : fixN x most = 0 := by
  unfold fixE at h; unfold fixN
  by_cases h1 : isNum x
  · rw [if_neg (Classical.not_not.2 h1)] at h
    by_cases h2 : inRange x most
    · rw [if_pos h2] at h; exact absurd rfl h
    · rw [if_neg (fun k => h2 k.2)]
  · rw [if_neg (fun k => h1 k.1)]
theorem fixE_ok {x : Nat} {most : Int} (h : fixE x most = 0) : isNum x ∧ inRange x most ∧ fixN x most = fixV (fv x) := by
  unfold fixE at h
  by_cases h1 : isNum x
  · rw [if_neg (Classical.not_not.2 h1)] at h
    by_cases h2 : inRange x most
    · exact ⟨h1, h2, if_pos ⟨h1, h2⟩⟩
    · rw [if_neg h2] at h; cases h
  · rw [if_pos h1] at h; cases h
theorem rnd_mono {A B : Nat} (h : A ≤ B) : rnd A ≤ rnd B := by
  unfold rnd
  have hu := U_pos
  have ha := Nat.div_add_mod A U
  have hb := Nat.div_add_mod B U
  have la := Nat.mod_lt A hu
  have lb := Nat.mod_lt B hu
  have hd : A / U ≤ B / U := Nat.div_le_div_right h
  rcases Nat.lt_or_eq_of_le hd with k | k
  · split <;> split <;> omega
  · rw [k] at ha ⊢
    split <;> split <;> omega
theorem rnd_mul (n : Nat) : rnd (n * U) = n := by
  unfold rnd
  rw [Nat.mul_mod_left, Nat.mul_div_cancel _ U_pos, if_neg (by have := U_pos; omega)]
/-- Not farther than half a step. -/
theorem rnd_near (A : Nat) : 2 * A ≤ 2 * (rnd A * U) + U ∧ 2 * (rnd A * U) ≤ 2 * A + U := by
  unfold rnd
  have hu := U_pos
  have ha := Nat.div_add_mod A U
  have la := Nat.mod_lt A hu
  rw [Nat.mul_comm] at ha
  split
  · rw [Nat.add_mul, Nat.one_mul]; omega
  · omega
theorem rnd_le {A m : Nat} (h : A ≤ m * U) : rnd A ≤ m := by have := rnd_mono h; rwa [rnd_mul] at this
theorem fixV_neg (v : Int) : fixV (-v) = -fixV v := by
  unfold fixV sg
  rw [Int.natAbs_neg]
  by_cases h : v < 0
  · rw [if_neg (by omega), if_pos h, Int.neg_neg]
  · by_cases k : v = 0
    · subst k
      have : rnd (8192 * (0 : Int).natAbs) = 0 := by
        have := rnd_mul 0
        rwa [Nat.zero_mul] at this
      rw [this]; rfl
    · rw [if_pos (by omega), if_neg h]
theorem fixV_mono {v w : Int} (h : v ≤ w) : fixV v ≤ fixV w := by
  unfold fixV sg
  by_cases h1 : v < 0 <;> by_cases h2 : w < 0
  · rw [if_pos h1, if_pos h2]
    have := rnd_mono (show 8192 * w.natAbs ≤ 8192 * v.natAbs by omega)
    omega
  · rw [if_pos h1, if_neg h2]; omega
  · omega
  · rw [if_neg h1, if_neg h2]
    have := rnd_mono (show 8192 * v.natAbs ≤ 8192 * w.natAbs by omega)
    omega
theorem fixV_range {v most : Int} (h0 : 0 ≤ most) (h1 : -(most * (U : Int)) ≤ v) (h2 : v ≤ most * (U : Int)) : -(8192 * most) ≤ fixV v ∧ fixV v ≤ 8192 * most := by
  obtain ⟨m, rfl⟩ := Int.eq_ofNat_of_zero_le h0
  have h3 : 8192 * v.natAbs ≤ (8192 * m) * U := by
    rw [← Int.natCast_mul] at h1 h2
    rw [Nat.mul_assoc]
    omega
  have h4 := rnd_le h3
  unfold fixV sg
  split <;> omega
/-- What is back is fixed as it was. -/
theorem fixV_back {n v : Int} (h : v * 8192 = n * (U : Int)) : fixV v = n := by
  have hu := U_pos
  have h1 : 8192 * v.natAbs = n.natAbs * U := by
    have := congrArg Int.natAbs h
    rw [Int.natAbs_mul, Int.natAbs_mul] at this
    have e : ((8192 : Int)).natAbs = 8192 := rfl
    rw [e, Int.natAbs_natCast] at this
    omega
  have hs : v < 0 ↔ n < 0 := by
    constructor
    · intro k
      apply Int.not_le.1; intro l
      have : 0 ≤ n * (U : Int) := Int.mul_nonneg l (by omega)
      omega
    · intro k
      have : n * (U : Int) < 0 := Int.mul_neg_of_neg_of_pos k (by omega)
      omega
  unfold fixV sg
  rw [h1, rnd_mul]
  by_cases k : v < 0
  · rw [if_pos k]; have := hs.1 k; omega
  · rw [if_neg k]; have : ¬ n < 0 := fun l => k (hs.2 l); omega
-- what is reckoned on the way
/-- A value that has fewer than 54 digits. -/
theorem digits {x : Nat} (h : rungOf x < infR) : ∃ m e : Nat, m < 2 ^ 53 ∧ (fv x).natAbs = m * pw e := by
  obtain ⟨m, e, _, m1, mh, _⟩ := read_num h
  refine ⟨m, e, mh, ?_⟩
  unfold fv sgn; rw [m1, ← pw_def e]
  split <;> omega
theorem big_lt : 180 * 8192 * U < 2 ^ 52 * pw 2046 := by
  unfold U
  rw [show (2046 : Nat) = 1074 + 972 from rfl, pw_add, Nat.mul_comm (pw 1074), ← Nat.mul_assoc]
  refine Nat.mul_lt_mul_of_pos_right ?_ (pw_pos _)
  have h := pw_pos 972
  have : 180 * 8192 < 2 ^ 52 := by decide
  calc 180 * 8192 < 2 ^ 52 := this
    _ = 2 ^ 52 * 1 := (Nat.mul_one _).symm
    _ ≤ 2 ^ 52 * pw 972 := Nat.mul_le_mul_left _ h
theorem exact_of {v : Int} {k t : Nat} (h : k < 2 ^ 53) (hv : v.natAbs = k * pw t) (hb : v.natAbs ≤ 180 * 8192 * U) : ∃ z, isNum z ∧ rungOf z < infR ∧ fv z = v := by
  have hl := Nat.lt_of_le_of_lt hb big_lt
  obtain ⟨z, h1, h2, h3⟩ := value_of h (by rw [← pw_def t, ← hv]; exact hl) (decide (v < 0))
  refine ⟨z, h1, h2, ?_⟩
  rw [h3, ← pw_def t, ← hv]
  unfold sgn
  by_cases k : v < 0
  · rw [decide_eq_true k, if_pos rfl]; omega
  · rw [decide_eq_false k, if_neg (by decide)]; omega
/-- A number that was rounded from a value that has a word is that. -/
theorem near_exact {w : Nat} {T v : Int} {q : Nat} (h : Near w T q) (hT : v * ((pw q : Nat) : Int) = T) (hz : ∃ z, isNum z ∧ rungOf z < infR ∧ fv z = v) : isNum w ∧ w < 2 ^ 64 ∧ rungOf w < infR ∧ fv w = v := by
  obtain ⟨z, h1, h2, h3⟩ := hz
  have e := h.exact h1 (by rw [h3]; exact hT)
  refine ⟨h.1, h.2.1, ?_, e.trans h3⟩
  have hm := mu_lt h2
  refine fin_of_lt h.1 ?_ ?_
  · rw [e]; unfold fv sgn; split <;> omega
  · rw [e]; unfold fv sgn; split <;> omega
theorem sg_neg_abs (v : Int) : sg v v.natAbs = v := by unfold sg; split <;> omega
theorem U_two : U = 2 * pw 1073 := by unfold U; rw [show (1074 : Nat) = 1 + 1073 from rfl, pw_add, show pw 1 = 2 from rfl]
theorem word_at (w : Nat) (neg : Bool) (t : Nat) (hw : w = double.word neg (t * 2 ^ 52 + 2 ^ 52)) (ht : t * 2 ^ 52 + 2 ^ 52 < infR) : isNum w ∧ rungOf w < infR ∧ w < 2 ^ 64 ∧ fv w = sgn neg (pw (t + 52)) := by
  have hr : t * 2 ^ 52 + 2 ^ 52 < 2 ^ 63 := Nat.lt_trans ht infR_lt
  have h1 := (rung_word (neg := neg) hr).1
  subst hw
  refine ⟨by unfold isNum; rw [h1]; omega, by rw [h1]; exact ht, fword_lt _ hr, ?_⟩
  rw [fv_word hr, mu_pw (Nat.le_refl _) (by decide), ← pw_def 52, ← pw_add, Nat.add_comm]
theorem val8192 : isNum w8192 ∧ rungOf w8192 < infR ∧ w8192 < 2 ^ 64 ∧ fv w8192 = 8192 * (U : Int) := by
  have h := word_at w8192 false 1035 rfl (by unfold infR; omega)
  refine ⟨h.1, h.2.1, h.2.2.1, h.2.2.2.trans ?_⟩
  show ((pw (1035 + 52) : Nat) : Int) = _
  rw [show 1035 + 52 = 13 + 1074 from rfl, pw_add, Int.natCast_mul]; rfl
/-- One half, as a word, and its opposite. -/
def wHalf : Nat := 4602678819172646912
theorem valHalf : isNum wHalf ∧ rungOf wHalf < infR ∧ wHalf < 2 ^ 64 ∧ fv wHalf = (pw 1073 : Int) := by
  have h := word_at wHalf false 1021 rfl (by unfold infR; omega)
  exact h
def wMinusHalf : Nat := 13826050856027422720
theorem valMinusHalf : isNum wMinusHalf ∧ rungOf wMinusHalf < infR ∧ wMinusHalf < 2 ^ 64 ∧ fv wMinusHalf = -(pw 1073 : Int) := by
  have h := word_at wMinusHalf true 1021 rfl (by unfold infR; omega)
  exact h
/-- 8192 times a number in range. -/
theorem times8192 {x : Nat} (h : rungOf x < infR) (hb : (fv x).natAbs ≤ 180 * U) : ∃ y, double.mul x w8192 = some y ∧ isNum y ∧ y < 2 ^ 64 ∧ rungOf y < infR ∧ fv y = fv x * 8192 := by
  obtain ⟨y, h1, h2⟩ := mul_near h val8192.2.1
  obtain ⟨m, e, mh, hm⟩ := digits h
  have ha : (fv x * 8192).natAbs = m * pw (e + 13) := by
    rw [Int.natAbs_mul, hm, pw_add, show pw 13 = 8192 from rfl, Nat.mul_assoc]; rfl
  have hz := exact_of mh ha (by rw [Int.natAbs_mul, show ((8192 : Int)).natAbs = 8192 from rfl]; rw [Nat.mul_right_comm]; exact Nat.mul_le_mul_right _ hb)
  refine ⟨y, h1, near_exact h2 ?_ hz⟩
  rw [val8192.2.2.2, Int.mul_assoc]; rfl
/-- A whole number, as a number with a fraction. -/
theorem whole (n : Int) (h : n.natAbs ≤ 180 * 8192) : isNum (floatOfInt .f64 n) ∧ floatOfInt .f64 n < 2 ^ 64 ∧ rungOf (floatOfInt .f64 n) < infR ∧ fv (floatOfInt .f64 n) = n * (U : Int) := by
  have hz := exact_of (v := n * (U : Int)) (k := n.natAbs) (t := 1074) (Nat.lt_of_le_of_lt h (by decide)) (by rw [Int.natAbs_mul]; rfl) (by rw [Int.natAbs_mul, Int.natAbs_natCast]; exact Nat.mul_le_mul_right _ h)
  exact near_exact (int_near n) (by rw [pw_zero]; show n * (U : Int) * 1 = _; rw [Int.mul_one]; rfl) hz
theorem trunc_is {y : Nat} (h : rungOf y < infR) (hb : (fv y).natAbs ≤ 180 * 8192 * U) : floatToIntVal .f64 y .i64 = some (sg (fv y) ((fv y).natAbs / U)) := by
  have hd : (fv y).natAbs / U ≤ 180 * 8192 := by
    have := Nat.div_le_div_right (c := U) hb
    rwa [Nat.mul_div_cancel _ U_pos] at this
  refine toInt_is h ?_ ?_ ?_
  · have ha : (fv y).natAbs = mu (rungOf y) := by unfold fv sgn; split <;> omega
    rw [ha]
    unfold sg sgn
    cases hn : negOf y
    · have := fv_nonneg hn
      rw [if_neg (by omega), if_neg (by decide)]; rfl
    · have := fv_nonpos hn
      by_cases k : fv y < 0
      · rw [if_pos k, if_pos rfl]; rfl
      · have : mu (rungOf y) = 0 := by omega
        rw [if_neg k, if_pos rfl, this, Nat.zero_div, Nat.zero_div]; rfl
  · generalize (fv y).natAbs / U = q at *
    unfold sg; split <;> omega
  · generalize (fv y).natAbs / U = q at *
    unfold sg; split <;> omega
/-- What is left of a number when its whole part is taken off. -/
theorem left_is {y : Nat} (hy : rungOf y < infR) (hb : (fv y).natAbs ≤ 180 * 8192 * U) : ∃ r, double.sub y (floatOfInt .f64 (sg (fv y) ((fv y).natAbs / U))) = some r ∧ isNum r ∧ r < 2 ^ 64 ∧ rungOf r < infR ∧ fv r = sg (fv y) ((fv y).natAbs % U) := by
  have hd : (fv y).natAbs / U ≤ 180 * 8192 := by
    have := Nat.div_le_div_right (c := U) hb
    rwa [Nat.mul_div_cancel _ U_pos] at this
  obtain ⟨w1, w2, w3, w4⟩ := whole (sg (fv y) ((fv y).natAbs / U)) (by generalize (fv y).natAbs / U = q at *; unfold sg; split <;> omega)
  obtain ⟨r, h1, h2⟩ := sub_near hy w3 w2
  rw [w4] at h2
  obtain ⟨m, e, mh, hm⟩ := digits hy
  have hv : fv y - sg (fv y) ((fv y).natAbs / U) * (U : Int) = sg (fv y) ((fv y).natAbs % U) := by
    have hq := Nat.div_add_mod (fv y).natAbs U
    have hq' : ((U : Int)) * (((fv y).natAbs / U : Nat) : Int) + (((fv y).natAbs % U : Nat) : Int) = ((fv y).natAbs : Int) := by rw [← Int.natCast_mul, ← Int.natCast_add, hq]
    rw [Int.mul_comm] at hq'
    unfold sg
    split
    · rw [Int.neg_mul]; omega
    · omega
  have ha : ∃ k t, k < 2 ^ 53 ∧ (fv y).natAbs % U = k * pw t := by
    rw [hm]
    by_cases he : 1074 ≤ e
    · refine ⟨0, 0, by decide, ?_⟩
      unfold U
      rw [show e = (e - 1074) + 1074 from by omega, pw_add, ← Nat.mul_assoc, Nat.mul_mod_left]; simp
    · refine ⟨m % pw (1074 - e), e, Nat.lt_of_le_of_lt (Nat.mod_le _ _) mh, ?_⟩
      unfold U
      rw [show (1074 : Nat) = (1074 - e) + e from by omega, pw_add, Nat.mul_mod_mul_right, show 1074 - e + e - e = 1074 - e from by omega]
  obtain ⟨k, t, hk, hkt⟩ := ha
  have hz := exact_of (v := sg (fv y) ((fv y).natAbs % U)) hk (by rw [← hkt]; unfold sg; split <;> omega) (by
    have := Nat.mod_le (fv y).natAbs U
    unfold sg; split <;> omega)
  refine ⟨r, h1, near_exact h2 (by rw [pw_zero]; show _ * 1 = _; rw [Int.mul_one, hv]) hz⟩
theorem sg_diff (v : Int) (n u : Nat) : (sg v n * (u : Int) - v).natAbs = (((n * u : Nat) : Int) - (v.natAbs : Int)).natAbs := by
  rw [Int.natCast_mul]
  obtain ⟨p, hp⟩ : ∃ p : Int, (n : Int) * (u : Int) = p := ⟨_, rfl⟩
  unfold sg
  split
  · rw [Int.neg_mul, hp]; omega
  · rw [hp]; omega
/-- What is left over, or what lacks, has few digits. -/
theorem rnd_digits {m e A : Nat} (mh : m < 2 ^ 53) (hm : A = m * pw e) : ∃ k t, k < 2 ^ 53 ∧ (((rnd A * U : Nat) : Int) - (A : Int)).natAbs = k * pw t := by
  have hu := U_pos
  have hq := Nat.div_add_mod A U
  have hl := Nat.mod_lt A hu
  rw [Nat.mul_comm] at hq
  by_cases he : 1074 ≤ e
  · have h0 : A % U = 0 := by
      rw [hm]; unfold U
      rw [show e = (e - 1074) + 1074 from by omega, pw_add, ← Nat.mul_assoc, Nat.mul_mod_left]
    refine ⟨0, 0, by decide, ?_⟩
    unfold rnd
    rw [if_neg (by rw [h0]; omega)]; omega
  · have hU : U = pw (1074 - e) * pw e := by unfold U; rw [← pw_add]; congr 1; omega
    have hr : A % U = m % pw (1074 - e) * pw e := by rw [hm, hU, Nat.mul_mod_mul_right]
    have hml := Nat.mod_le m (pw (1074 - e))
    unfold rnd
    by_cases hc : U ≤ 2 * (A % U)
    · refine ⟨pw (1074 - e) - m % pw (1074 - e), e, ?_, ?_⟩
      · rw [hr, hU, ← Nat.mul_assoc] at hc
        have := Nat.le_of_mul_le_mul_right hc (pw_pos e)
        clear hc hr hq hl hU
        omega
      · rw [if_pos hc, Nat.add_mul, Nat.one_mul, Nat.sub_mul, ← hr, ← hU]
        clear hU hr hml hc hm
        generalize A % U = r at *
        generalize A / U * U = p at *
        omega
    · refine ⟨m % pw (1074 - e), e, Nat.lt_of_le_of_lt hml mh, ?_⟩
      rw [if_neg hc, ← hr]
      clear hU hr hml hc hm
      generalize A % U = r at *
      generalize A / U * U = p at *
      omega
theorem rnd_close (A : Nat) : (((rnd A * U : Nat) : Int) - (A : Int)).natAbs ≤ U := by
  have hn := rnd_near A
  generalize rnd A * U = p at *
  omega
/-- How far a number is from the whole one that it is fixed to. -/
theorem away_is {y : Nat} (hy : rungOf y < infR) (hy2 : y < 2 ^ 64) (hb : (fv y).natAbs ≤ 180 * 8192 * U) : ∃ r, double.sub (floatOfInt .f64 (sg (fv y) (rnd (fv y).natAbs))) y = some r ∧ isNum r ∧ r < 2 ^ 64 ∧ rungOf r < infR ∧ fv r = sg (fv y) (rnd (fv y).natAbs) * (U : Int) - fv y := by
  have hd := rnd_le hb
  obtain ⟨w1, w2, w3, w4⟩ := whole (sg (fv y) (rnd (fv y).natAbs)) (by generalize rnd (fv y).natAbs = q at *; unfold sg; split <;> omega)
  obtain ⟨r, h1, h2⟩ := sub_near w3 hy hy2
  rw [w4] at h2
  obtain ⟨m, e, mh, hm⟩ := digits hy
  obtain ⟨k, t, hk, hkt⟩ := rnd_digits mh hm
  rw [← sg_diff] at hkt
  have hz := exact_of hk hkt (by
    rw [sg_diff]
    refine Nat.le_trans (rnd_close _) ?_
    have := Nat.mul_le_mul_right U (show 1 ≤ 180 * 8192 by decide)
    omega)
  refine ⟨r, h1, near_exact h2 (by rw [pw_zero]; show _ * 1 = _; rw [Int.mul_one]) hz⟩
/-- A whole number, divided by 8192. -/
theorem back_is (n : Int) (h : n.natAbs ≤ 180 * 8192) : ∃ w v, double.div (floatOfInt .f64 n) w8192 = some w ∧ isNum w ∧ w < 2 ^ 64 ∧ rungOf w < infR ∧ fv w = v ∧ v * 8192 = n * (U : Int) := by
  obtain ⟨w1, w2, w3, w4⟩ := whole n h
  obtain ⟨w, h1, h2⟩ := div_near w3
  rw [w4] at h2
  have hU : (U : Int) = ((pw 1061 : Nat) : Int) * 8192 := by unfold U; rw [show (1074 : Nat) = 1061 + 13 from rfl, pw_add, Int.natCast_mul]; rfl
  have hz := exact_of (v := n * ((pw 1061 : Nat) : Int)) (k := n.natAbs) (t := 1061) (Nat.lt_of_le_of_lt h (by decide)) (by rw [Int.natAbs_mul]; rfl) (by
    rw [Int.natAbs_mul, Int.natAbs_natCast]
    refine Nat.mul_le_mul h ?_
    unfold U; rw [show (1074 : Nat) = 1061 + 13 from rfl, pw_add]
    exact Nat.le_mul_of_pos_right _ (pw_pos _))
  have hT : n * ((pw 1061 : Nat) : Int) * ((pw 13 : Nat) : Int) = n * (U : Int) := by rw [hU, Int.mul_assoc]; rfl
  obtain ⟨a, b, c, d⟩ := near_exact h2 hT hz
  exact ⟨w, _, h1, a, b, c, d, by rw [← hT]; rfl⟩
end Go.Proofs.Ytcohbjnfamccjaa

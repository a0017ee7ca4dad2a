/- The laws' own helpers of layer 13: contracts only. -/
import Derived.Test.YtcohbjnfamccjaaRows
import Derived.Test.YtcohbjnfamccjaaFixedOwn
import Derived.Test.YtcohbjnfamccjaaInts
import Derived.Test.YtcohbjnfamccjaaBase
import Derived.WalkKit
import Derived.ProofKit
import Derived.Lib.Hide
import Derived.WalkLawsBesides
import Derived.Test.YtcohbjnfamccjaaBox
import Derived.Deep.RegionHeld3
import Derived.OpenShut
import Derived.ChangeMaps5
namespace Go.Proofs.Ytcohbjnfamccjaa
open Go.RowKit
set_option linter.unusedVariables false
set_option linter.unusedSimpArgs false

attribute [local go_sem] unary_negF
theorem float_wf {b : Nat} (h : (Lit.float .f64 b).wf = true) : b < 2 ^ 64 := by simpa [Lit.wf] using h
/-- The bits that come of 0 divided by 0. -/
def nanOf (w : World) : Nat := Question.cut (.nanBits .f64 0 0) (w.tape w.drawn (.nanBits .f64 0 0))
theorem nanOf_is (w : World) : ¬ isNum (nanOf w) ∧ nanOf w < 2 ^ 64 := by
  obtain ⟨t, ht⟩ : ∃ t, w.tape w.drawn (.nanBits .f64 0 0) = t := ⟨_, rfl⟩
  have e : nanOf w = (t % 2) * 2 ^ 63 + 9218868437227405312 + 1 + (t / 2) % (2 ^ 52 - 1) := by unfold nanOf; rw [ht]; rfl
  unfold isNum rungOf infR
  rw [e]
  have h1 := Nat.mod_lt (t / 2) (show 2 ^ 52 - 1 > 0 by decide)
  have h2 := Nat.mod_lt t (show 2 > 0 by decide)
  generalize t / 2 % (2 ^ 52 - 1) = a at *
  generalize t % 2 = b at *
  have : b = 0 ∨ b = 1 := by omega
  rcases this with rfl | rfl <;> omega
theorem quo_nan (t : TypeId) (w : World) : (binOp .quo t (.float .f64 0) (.float .f64 0)).run Try.prog w = .ok (.float .f64 (nanOf w)) w.drew := by
  have h : FloatKind.f64.format.div 0 0 = none := by decide
  simp [binOp, Op.floatArith, h, Question.forced, nanOf]
theorem quo_inf (t : TypeId) (w : World) : (binOp .quo t (.float .f64 4607182418800017408) (.float .f64 0)).run Try.prog w = .ok (.float .f64 9218868437227405312) w := run_float_arith w .quo t .f64 _ _ _ (by rfl)
theorem quo_minus (t : TypeId) (w : World) : (binOp .quo t (.float .f64 13830554455654793216) (.float .f64 0)).run Try.prog w = .ok (.float .f64 18442240474082181120) w := run_float_arith w .quo t .f64 _ _ _ (by rfl)
theorem inf_parts : isNum 9218868437227405312 ∧ fv 9218868437227405312 = (mu infR : Int) ∧ isNum 18442240474082181120 ∧ fv 18442240474082181120 = -(mu infR : Int) := by
  have h1 := word_of false (Nat.le_refl infR)
  have h2 := word_of true (Nat.le_refl infR)
  rw [show Ieee.double.word false infR = 9218868437227405312 from rfl] at h1
  rw [show Ieee.double.word true infR = 18442240474082181120 from rfl] at h2
  exact ⟨h1.1, h1.2, h2.1, h2.2⟩
theorem mzero_parts : isNum 9223372036854775808 ∧ fv 9223372036854775808 = 0 := ⟨by unfold isNum rungOf infR; omega, rfl⟩
theorem two_parts : isNum 4611686018427387904 ∧ fv 4611686018427387904 = (pw 1075 : Int) ∧ isNum 13835058055282163712 ∧ fv 13835058055282163712 = -(pw 1075 : Int) := by
  have h1 := word_at 4611686018427387904 false 1023 rfl (by unfold infR; omega)
  have h2 := word_at 13835058055282163712 true 1023 rfl (by unfold infR; omega)
  exact ⟨h1.1, h1.2.2.2, h2.1, h2.2.2.2⟩
theorem ninety_parts : isNum 4636068788284948480 ∧ fv 4636068788284948480 = 181 * (pw 1073 : Int) := by
  have hr : 1028 * 2 ^ 52 + 181 * 2 ^ 45 < 2 ^ 63 := by omega
  have e : (4636068788284948480 : Nat) = Ieee.double.word false (1028 * 2 ^ 52 + 181 * 2 ^ 45) := rfl
  refine ⟨by unfold isNum rungOf infR; omega, ?_⟩
  rw [e, fv_word hr, mu_pw (by omega) (by omega), show (1073 : Nat) = 45 + 1028 from rfl, pw_add, show pw 45 = 35184372088832 from rfl]
  generalize pw 1028 = c
  show ((181 * 2 ^ 45 * c : Nat) : Int) = 181 * ((35184372088832 * c : Nat) : Int)
  omega
theorem mu_inf_big : (pw 1075 : Int) < (mu infR : Int) := by
  have h := big_lt
  rw [← mu_inf] at h
  unfold U at h
  have : pw 1075 = 2 * pw 1074 := by rw [show (1075 : Nat) = 1 + 1074 from rfl, pw_add, show pw 1 = 2 from rfl]
  have := pw_pos 1074
  omega
theorem zeroFix (x : Nat) (most : Int) (hx : isNum x) (h0 : fv x = 0) (h1 : 0 ≤ most) (h2 : most ≤ 180) : fixN x most = 0 ∧ fixE x most = 0 := by
  have hr : inRange x most := ⟨h1, h2, by rw [h0]; have := Int.mul_nonneg h1 (show (0 : Int) ≤ (U : Int) by omega); omega, by rw [h0]; exact Int.mul_nonneg h1 (by omega)⟩
  refine ⟨?_, by unfold fixE; rw [if_neg (Classical.not_not.2 hx), if_pos hr]⟩
  rw [show fixN x most = fixV (fv x) from if_pos ⟨hx, hr⟩]
  exact fixV_back (by rw [h0, Int.zero_mul, Int.zero_mul])
theorem shownFix : fixN 4602678819172646912 90 = 4096 ∧ fixE 4602678819172646912 90 = 0 := by
  have hx := valHalf.1
  have hv : fv wHalf = (pw 1073 : Int) := valHalf.2.2.2
  have hu := U_two
  have hp := pw_pos 1073
  have hr : inRange wHalf 90 := ⟨by omega, by omega, by rw [hv]; omega, by rw [hv]; omega⟩
  refine ⟨?_, by show fixE wHalf 90 = 0; unfold fixE; rw [if_neg (Classical.not_not.2 hx), if_pos hr]⟩
  show fixN wHalf 90 = 4096
  rw [show fixN wHalf 90 = fixV (fv wHalf) from if_pos ⟨hx, hr⟩]
  exact fixV_back (by rw [hv]; omega)
theorem shownRange : fixN 4636068788284948480 90 = 0 ∧ fixE 4636068788284948480 90 = 13 := by
  obtain ⟨hx, hv⟩ := ninety_parts
  have hu := U_two
  have hp := pw_pos 1073
  have hE : fixE 4636068788284948480 90 = 13 := by
    unfold fixE
    rw [if_neg (Classical.not_not.2 hx), if_neg (fun k : inRange 4636068788284948480 90 => by obtain ⟨_, _, _, k4⟩ := k; rw [hv] at k4; omega)]
  exact ⟨fixN_out (by rw [hE]; decide), hE⟩
theorem nanFix {x : Nat} (h : ¬ isNum x) (most : Int) : fixN x most = 0 ∧ fixE x most = 12 := by
  have hE : fixE x most = 12 := by unfold fixE; rw [if_pos h]
  exact ⟨fixN_out (by rw [hE]; decide), hE⟩
theorem shownClass : classN 9218868437227405312 = 3 ∧ classN 18442240474082181120 = 4 ∧ classN 13835058055282163712 = 2 ∧ classN 4611686018427387904 = 1 ∧ classN 9223372036854775808 = 0 := by
  have hI := mu_pos (show 0 < infR by unfold infR; omega)
  have hb := mu_inf_big
  have hp := pw_pos 1075
  refine ⟨?_, ?_, ?_, ?_, ?_⟩
  · obtain ⟨a, b, _, _⟩ := inf_parts; unfold classN; rw [if_neg (Classical.not_not.2 a), if_pos b]
  · obtain ⟨_, _, a, b⟩ := inf_parts; unfold classN; rw [if_neg (Classical.not_not.2 a), if_neg (by rw [b]; omega), if_pos b]
  · obtain ⟨_, _, a, b⟩ := two_parts; unfold classN; rw [if_neg (Classical.not_not.2 a), if_neg (by rw [b]; omega), if_neg (by rw [b]; omega), if_neg (by rw [b]; omega), if_pos (by rw [b]; omega)]
  · obtain ⟨a, b, _, _⟩ := two_parts; unfold classN; rw [if_neg (Classical.not_not.2 a), if_neg (by rw [b]; omega), if_neg (by rw [b]; omega), if_pos (by rw [b]; omega)]
  · obtain ⟨a, b⟩ := mzero_parts; unfold classN; rw [if_neg (Classical.not_not.2 a), if_neg (by rw [b]; omega), if_neg (by rw [b]; omega), if_neg (by rw [b]; omega), if_neg (by rw [b]; omega)]
theorem nanClass {x : Nat} (h : ¬ isNum x) : classN x = 5 := if_pos h
theorem shownBack {w : Nat} (h : BackOf 4096 w) : (FloatKind.f64.format.order w 4602678819172646912 == some .eq) = true := by
  obtain ⟨h1, h2, h3, h4⟩ := h
  rw [if_pos (by decide)] at h4
  have hu := U_two
  have hv : fv wHalf = (pw 1073 : Int) := valHalf.2.2.2
  have e := eqD h1 valHalf.1
  refine e.trans (decide_eq_true ?_)
  rw [hv]; omega

theorem fix_bound (x : Nat) (most : Int) : -1474560 ≤ fixN x most ∧ fixN x most ≤ 1474560 := by
  unfold fixN
  by_cases h : isNum x ∧ inRange x most
  · rw [if_pos h]
    obtain ⟨_, h0, h1, h2, h3⟩ := h
    have := fixV_range h0 h2 h3
    omega
  · rw [if_neg h]; omega
theorem fix_opp {x : Nat} (h : x < 2 ^ 64) (most : Int) : fixN (Op.negFloat .f64 x) most = -fixN x most ∧ fixE (Op.negFloat .f64 x) most = fixE x most := by
  have hn := num_opp h
  have hr : inRange (Op.negFloat .f64 x) most ↔ inRange x most := by
    unfold inRange; rw [fv_opp h]
    constructor <;> (rintro ⟨a, b, c, d⟩; exact ⟨a, b, by omega, by omega⟩)
  refine ⟨?_, ?_⟩
  · unfold fixN
    by_cases k : isNum x ∧ inRange x most
    · rw [if_pos k, if_pos ⟨hn.2 k.1, hr.2 k.2⟩, fv_opp h, fixV_neg]
    · rw [if_neg k, if_neg (fun l => k ⟨hn.1 l.1, hr.1 l.2⟩)]; rfl
  · unfold fixE
    by_cases k : isNum x
    · rw [if_neg (Classical.not_not.2 k), if_neg (Classical.not_not.2 (hn.2 k))]
      by_cases l : inRange x most
      · rw [if_pos l, if_pos (hr.2 l)]
      · rw [if_neg l, if_neg (fun m => l (hr.1 m))]
    · rw [if_pos k, if_pos (fun l => k (hn.1 l))]
theorem back_fix {n : Int} {w : Nat} (h : BackOf n w) (h1 : -1474560 ≤ n) (h2 : n ≤ 1474560) : fixN w 180 = n ∧ fixE w 180 = 0 ∧ classN w = (if n = 0 then 0 else if n < 0 then 2 else 1) := by
  obtain ⟨a, b, c, d⟩ := h
  rw [if_pos ⟨h1, h2⟩] at d
  have hu := U_pos
  have hlo : -(1474560 * (U : Int)) ≤ n * (U : Int) := by rw [← Int.neg_mul]; exact Int.mul_le_mul_of_nonneg_right h1 (by omega)
  have hhi : n * (U : Int) ≤ 1474560 * (U : Int) := Int.mul_le_mul_of_nonneg_right h2 (by omega)
  have hr : inRange w 180 := ⟨by decide, by decide, by omega, by omega⟩
  have hf := c
  refine ⟨?_, ?_, ?_⟩
  · rw [show fixN w 180 = fixV (fv w) from if_pos ⟨a, hr⟩]; exact fixV_back d
  · unfold fixE; rw [if_neg (Classical.not_not.2 a), if_pos hr]
  · have hm := mu_lt hf
    have g1 : ¬ fv w = (mu infR : Int) := by intro k; unfold fv sgn at k; split at k <;> omega
    have g2 : ¬ fv w = -(mu infR : Int) := by intro k; unfold fv sgn at k; split at k <;> omega
    have s1 : n = 0 → fv w = 0 := fun k => by subst k; omega
    have s2 : n < 0 → fv w < 0 := fun k => by have := Int.mul_neg_of_neg_of_pos k (show (0 : Int) < (U : Int) by omega); omega
    have s3 : 0 < n → 0 < fv w := fun k => by have := Int.mul_pos k (show (0 : Int) < (U : Int) by omega); omega
    unfold classN
    rw [if_neg (Classical.not_not.2 a), if_neg g1, if_neg g2]
    by_cases k0 : n = 0
    · have := s1 k0; rw [if_neg (by omega), if_neg (by omega), if_pos k0]
    · by_cases k1 : n < 0
      · have := s2 k1; rw [if_neg (by omega), if_pos this, if_neg k0, if_pos k1]
      · have := s3 (by omega); rw [if_pos this, if_neg k0, if_neg k1]
theorem near_way {x : Nat} {most : Int} (hx : isNum x) (h : inRange x most) : ∃ y r : Nat, floatBits .mul .f64 x 4665729213955833856 = some y ∧ floatBits .sub .f64 (floatOfInt .f64 (fixV (fv x))) y = some r ∧
    (FloatKind.f64.format.order r 4602678819172646912 == some .lt || FloatKind.f64.format.order r 4602678819172646912 == some .eq) = true ∧ (FloatKind.f64.format.order r 13826050856027422720 == some .gt || FloatKind.f64.format.order r 13826050856027422720 == some .eq) = true := by
  obtain ⟨hf, hb⟩ := in_fin hx h
  obtain ⟨y, y1, y2, y3, y4, y5⟩ := times8192 hf hb
  have hb2 : (fv y).natAbs ≤ 180 * 8192 * U := by rw [y5, Int.natAbs_mul, show ((8192 : Int)).natAbs = 8192 from rfl, Nat.mul_right_comm]; exact Nat.mul_le_mul_right _ hb
  obtain ⟨r, r1, r2, r3, r4, r5⟩ := away_is y4 y3 hb2
  have hv : sg (fv y) (rnd (fv y).natAbs) = fixV (fv x) := by
    have hA : 8192 * (fv x).natAbs = (fv y).natAbs := by rw [y5, Int.natAbs_mul, Nat.mul_comm]; rfl
    have hs : fv x < 0 ↔ fv y < 0 := by rw [y5]; omega
    unfold fixV sg
    rw [hA]
    by_cases k : fv y < 0
    · rw [if_pos k, if_pos (hs.2 k)]
    · rw [if_neg k, if_neg (fun l => k (hs.1 l))]
  rw [hv] at r1
  have hc : (fv r).natAbs ≤ pw 1073 := by
    rw [r5, sg_diff]
    have hn := rnd_near (fv y).natAbs
    have hu := U_two
    generalize rnd (fv y).natAbs * U = p at *
    omega
  refine ⟨y, r, y1, r1, ?_, ?_⟩
  · have e := leD r2 valHalf.1; rw [valHalf.2.2.2] at e; exact e.trans (decide_eq_true (by omega))
  · have e := geD r2 valMinusHalf.1; rw [valMinusHalf.2.2.2] at e; exact e.trans (decide_eq_true (by omega))

end Go.Proofs.Ytcohbjnfamccjaa

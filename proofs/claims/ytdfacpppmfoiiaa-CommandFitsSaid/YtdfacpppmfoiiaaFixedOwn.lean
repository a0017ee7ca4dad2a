/- The program's own functions of layer 13: contracts only. -/
import Derived.Test.YtdfacpppmfoiiaaRows
import Derived.Test.YtdfacpppmfoiiaaFixedRef
import Derived.Test.YtdfacpppmfoiiaaRoundBits
import Derived.Test.YtdfacpppmfoiiaaInts
import Derived.Test.YtdfacpppmfoiiaaBase
import Derived.WalkKit
import Derived.ProofKit
import Derived.Lib.Hide
import Derived.WalkLawsBesides
import Derived.Laws.Externs
namespace Go.Proofs.Ytdfacpppmfoiiaa
open Go.RowKit
set_option linter.unusedVariables false
set_option linter.unusedSimpArgs false

attribute [local go_sem] unary_negF
theorem call_bits (y : Nat) (w : World) : (callFunc 50 #[.float .f64 y]).run Try.prog w = .ok (.value (.int .u64 (y : Int))) w := by
  rw [run_callFunc_extern (e := Extern.MathFloatBits.float64bits) Try.func50 (by kernel_rfl) (by kernel_rfl) (by kernel_rfl) (by kernel_rfl) _ w]; rfl

theorem call_from (y : Nat) (w : World) : (callFunc 51 #[.int .u64 (y : Int)]).run Try.prog w = .ok (.value (.float .f64 y)) w := by
  rw [run_callFunc_extern (e := Extern.MathFloatBits.float64frombits) Try.func51 (by kernel_rfl) (by kernel_rfl) (by kernel_rfl) (by kernel_rfl) _ w]; rfl

set_option maxRecDepth 100000 in
set_option maxHeartbeats 2000000 in
theorem roundLow (y : Nat) (W : World) (hy : y < 2 ^ 64) (h : rungOf y / 2 ^ 52 < 1022) : Calls Try.prog 47 #[.float .f64 y] W fun e W' => e = .returned (.float .f64 (rW y)) ∧ W' = W := by
  have cb := fun w => call_bits y w
  have pb := place_bits y hy
  have hz : rW y = Ieee.double.word (negOf y) 0 := by unfold rW rR; rw [if_pos h]
  generalize rungOf y / 2 ^ 52 = E at pb h
  have sb := sign_bits y hy
  rw [hz]
  generalize Ieee.double.word (negOf y) 0 = z at *
  have cf := fun w => call_from z w
  have g1 : (E : Int) < 1023 := by omega
  have g2 : ¬ (E : Int) = 1022 := by omega
  clear hy h hz
  go_enter Try.func47, Try.ntmps47
  go_wp2_with fail
  go_ret
  exact ⟨rfl, rfl⟩

set_option maxRecDepth 100000 in
set_option maxHeartbeats 2000000 in
theorem roundOne (y : Nat) (W : World) (hy : y < 2 ^ 64) (h : rungOf y / 2 ^ 52 = 1022) : Calls Try.prog 47 #[.float .f64 y] W fun e W' => e = .returned (.float .f64 (rW y)) ∧ W' = W := by
  have cb := fun w => call_bits y w
  have pb := place_bits y hy
  have hz : rW y = Ieee.double.word (negOf y) (1023 * 2 ^ 52) := by unfold rW rR; rw [if_neg (by omega), if_pos h]
  rw [h] at pb
  replace pb : bits .and .u64 ((y : Int) / 4503599627370496) 2047 = 1022 := pb
  have sb := sign_bits y hy
  have ob := one_bits (negOf y)
  rw [hz]
  generalize Ieee.double.word (negOf y) 0 = z at *
  generalize Ieee.double.word (negOf y) (1023 * 2 ^ 52) = u at *
  have cf := fun w => call_from u w
  clear hy h hz
  go_enter Try.func47, Try.ntmps47
  go_wp2_with fail
  go_ret
  exact ⟨rfl, rfl⟩

set_option maxRecDepth 100000 in
set_option maxHeartbeats 2000000 in
theorem roundMid (y : Nat) (W : World) (hy : y < 2 ^ 64) (hr : rungOf y < infR) (K : Nat) (hE : rungOf y / 2 ^ 52 = K + 1023) (hK : K ≤ 51) : Calls Try.prog 47 #[.float .f64 y] W fun e W' => e = .returned (.float .f64 (rW y)) ∧ W' = W := by
  have cb := fun w => call_bits y w
  have pb := place_bits y hy
  obtain ⟨A, m1, m2⟩ := mid_bits y K hy hr hE hK
  rw [hE] at pb
  replace pb : bits .and .u64 ((y : Int) / 4503599627370496) 2047 = (K : Int) + 1023 := pb
  generalize rW y = z at *
  have cf := fun w => call_from z w
  clear hy hr hE
  go_enter Try.func47, Try.ntmps47
  go_wp2_with fail
  go_ret
  exact ⟨rfl, rfl⟩

theorem own13Round (y : Nat) (W : World) (hy : y < 2 ^ 64) (hr : rungOf y < infR) (hb : (fv y).natAbs ≤ 180 * 8192 * U) : Calls Try.prog 47 #[.float .f64 y] W fun e W' => e = .returned (.float .f64 (rW y)) ∧ W' = W := by
  by_cases h1 : rungOf y / 2 ^ 52 < 1022
  · exact roundLow y W hy h1
  · by_cases h2 : rungOf y / 2 ^ 52 = 1022
    · exact roundOne y W hy h2
    · have hl : rungOf y < 1075 * 2 ^ 52 := by
        apply mu_lt_iff.1
        have e3 : mu (1075 * 2 ^ 52) = pw 1126 := mu_whole 1074
        rw [abs_fv] at hb
        rw [e3, show (1126 : Nat) = 52 + 1074 from rfl, pw_add]
        refine Nat.lt_of_le_of_lt hb ?_
        have q : 180 * 8192 < pw 52 := by decide
        unfold U
        refine Nat.mul_lt_mul_of_pos_right ?_ (pw_pos _)
        exact q
      exact roundMid y W hy hr (rungOf y / 2 ^ 52 - 1023) (by omega) (by omega)

set_option maxRecDepth 100000 in
set_option maxHeartbeats 2000000 in
theorem ownClassNaN (x : Nat) (W : World) (hx : ¬ isNum x) : Calls Try.prog 45 #[.float .f64 x] W fun e W' => e = .returned (.int .i64 (classN x)) ∧ W' = W := by
  have HC : classN x = 5 := by unfold classN; rw [if_pos hx]
  rw [HC]
  clear HC
  have n1 := neF hx
  clear hx
  go_enter Try.func45, Try.ntmps45
  go_wp2_with fail
  go_ret
  exact ⟨rfl, rfl⟩

set_option maxRecDepth 100000 in
set_option maxHeartbeats 2000000 in
theorem ownClassTop (x : Nat) (W : World) (hx : isNum x) (h1 : fv x = (mu infR : Int)) : Calls Try.prog 45 #[.float .f64 x] W fun e W' => e = .returned (.int .i64 (classN x)) ∧ W' = W := by
  have HC : classN x = 3 := by unfold classN; rw [if_neg (Classical.not_not.2 hx), if_pos h1]
  rw [HC]
  clear HC
  have n1 := neT hx
  have g1 : (FloatKind.f64.format.order x 9218868437227405311 == some .gt) = true := by have e := gtD hx top_parts.1; rw [top_parts.2.1] at e; refine e.trans ?_; exact decide_eq_true ((above_top hx).2 h1)
  clear hx h1
  go_enter Try.func45, Try.ntmps45
  go_wp2_with fail
  go_ret
  exact ⟨rfl, rfl⟩

set_option maxRecDepth 100000 in
set_option maxHeartbeats 2000000 in
theorem ownClassBot (x : Nat) (W : World) (hx : isNum x) (h1 : ¬ fv x = (mu infR : Int)) (h2 : fv x = -(mu infR : Int)) : Calls Try.prog 45 #[.float .f64 x] W fun e W' => e = .returned (.int .i64 (classN x)) ∧ W' = W := by
  have HC : classN x = 4 := by unfold classN; rw [if_neg (Classical.not_not.2 hx), if_neg h1, if_pos h2]
  rw [HC]
  clear HC
  have n1 := neT hx
  have g1 : (FloatKind.f64.format.order x 9218868437227405311 == some .gt) = false := by have e := gtD hx top_parts.1; rw [top_parts.2.1] at e; refine e.trans ?_; exact decide_eq_false (fun k => h1 ((above_top hx).1 k))
  have g2 : (FloatKind.f64.format.order x 18442240474082181119 == some .lt) = true := by have e := ltD hx top_parts.2.2.1; rw [top_parts.2.2.2] at e; refine e.trans ?_; exact decide_eq_true ((below_top hx).2 h2)
  clear hx h1 h2
  go_enter Try.func45, Try.ntmps45
  go_wp2_with fail
  go_ret
  exact ⟨rfl, rfl⟩

set_option maxRecDepth 100000 in
set_option maxHeartbeats 2000000 in
theorem ownClassPos (x : Nat) (W : World) (hx : isNum x) (h1 : ¬ fv x = (mu infR : Int)) (h2 : ¬ fv x = -(mu infR : Int)) (h3 : 0 < fv x) : Calls Try.prog 45 #[.float .f64 x] W fun e W' => e = .returned (.int .i64 (classN x)) ∧ W' = W := by
  have HC : classN x = 1 := by unfold classN; rw [if_neg (Classical.not_not.2 hx), if_neg h1, if_neg h2, if_pos h3]
  rw [HC]
  clear HC
  have n1 := neT hx
  have g1 : (FloatKind.f64.format.order x 9218868437227405311 == some .gt) = false := by have e := gtD hx top_parts.1; rw [top_parts.2.1] at e; refine e.trans ?_; exact decide_eq_false (fun k => h1 ((above_top hx).1 k))
  have g2 : (FloatKind.f64.format.order x 18442240474082181119 == some .lt) = false := by have e := ltD hx top_parts.2.2.1; rw [top_parts.2.2.2] at e; refine e.trans ?_; exact decide_eq_false (fun k => h2 ((below_top hx).1 k))
  have g3 : (FloatKind.f64.format.order x 0 == some .gt) = true := by have e := gtD hx zero_parts.1; rw [zero_parts.2] at e; refine e.trans ?_; exact decide_eq_true h3
  clear hx h1 h2 h3
  go_enter Try.func45, Try.ntmps45
  go_wp2_with fail
  go_ret
  exact ⟨rfl, rfl⟩

set_option maxRecDepth 100000 in
set_option maxHeartbeats 2000000 in
theorem ownClassNeg (x : Nat) (W : World) (hx : isNum x) (h1 : ¬ fv x = (mu infR : Int)) (h2 : ¬ fv x = -(mu infR : Int)) (h3 : ¬ 0 < fv x) (h4 : fv x < 0) : Calls Try.prog 45 #[.float .f64 x] W fun e W' => e = .returned (.int .i64 (classN x)) ∧ W' = W := by
  have HC : classN x = 2 := by unfold classN; rw [if_neg (Classical.not_not.2 hx), if_neg h1, if_neg h2, if_neg h3, if_pos h4]
  rw [HC]
  clear HC
  have n1 := neT hx
  have g1 : (FloatKind.f64.format.order x 9218868437227405311 == some .gt) = false := by have e := gtD hx top_parts.1; rw [top_parts.2.1] at e; refine e.trans ?_; exact decide_eq_false (fun k => h1 ((above_top hx).1 k))
  have g2 : (FloatKind.f64.format.order x 18442240474082181119 == some .lt) = false := by have e := ltD hx top_parts.2.2.1; rw [top_parts.2.2.2] at e; refine e.trans ?_; exact decide_eq_false (fun k => h2 ((below_top hx).1 k))
  have g3 : (FloatKind.f64.format.order x 0 == some .gt) = false := by have e := gtD hx zero_parts.1; rw [zero_parts.2] at e; refine e.trans ?_; exact decide_eq_false h3
  have g4 : (FloatKind.f64.format.order x 0 == some .lt) = true := by have e := ltD hx zero_parts.1; rw [zero_parts.2] at e; refine e.trans ?_; exact decide_eq_true h4
  clear hx h1 h2 h3 h4
  go_enter Try.func45, Try.ntmps45
  go_wp2_with fail
  go_ret
  exact ⟨rfl, rfl⟩

set_option maxRecDepth 100000 in
set_option maxHeartbeats 2000000 in
theorem ownClassZero (x : Nat) (W : World) (hx : isNum x) (h1 : ¬ fv x = (mu infR : Int)) (h2 : ¬ fv x = -(mu infR : Int)) (h3 : ¬ 0 < fv x) (h4 : ¬ fv x < 0) : Calls Try.prog 45 #[.float .f64 x] W fun e W' => e = .returned (.int .i64 (classN x)) ∧ W' = W := by
  have HC : classN x = 0 := by unfold classN; rw [if_neg (Classical.not_not.2 hx), if_neg h1, if_neg h2, if_neg h3, if_neg h4]
  rw [HC]
  clear HC
  have n1 := neT hx
  have g1 : (FloatKind.f64.format.order x 9218868437227405311 == some .gt) = false := by have e := gtD hx top_parts.1; rw [top_parts.2.1] at e; refine e.trans ?_; exact decide_eq_false (fun k => h1 ((above_top hx).1 k))
  have g2 : (FloatKind.f64.format.order x 18442240474082181119 == some .lt) = false := by have e := ltD hx top_parts.2.2.1; rw [top_parts.2.2.2] at e; refine e.trans ?_; exact decide_eq_false (fun k => h2 ((below_top hx).1 k))
  have g3 : (FloatKind.f64.format.order x 0 == some .gt) = false := by have e := gtD hx zero_parts.1; rw [zero_parts.2] at e; refine e.trans ?_; exact decide_eq_false h3
  have g4 : (FloatKind.f64.format.order x 0 == some .lt) = false := by have e := ltD hx zero_parts.1; rw [zero_parts.2] at e; refine e.trans ?_; exact decide_eq_false h4
  clear hx h1 h2 h3 h4
  go_enter Try.func45, Try.ntmps45
  go_wp2_with fail
  go_ret
  exact ⟨rfl, rfl⟩

theorem own13ClassQ (x : Nat) (W : World) : Calls Try.prog 45 #[.float .f64 x] W fun e W' => e = .returned (.int .i64 (classN x)) ∧ W' = W := by
  by_cases hx : isNum x
  · by_cases h1 : fv x = (mu infR : Int)
    · exact ownClassTop x W hx h1
    · by_cases h2 : fv x = -(mu infR : Int)
      · exact ownClassBot x W hx h1 h2
      · by_cases h3 : 0 < fv x
        · exact ownClassPos x W hx h1 h2 h3
        · by_cases h4 : fv x < 0
          · exact ownClassNeg x W hx h1 h2 h3 h4
          · exact ownClassZero x W hx h1 h2 h3 h4
  · exact ownClassNaN x W hx
theorem own13Class (x : Nat) (W : World) (hx : x < 2 ^ 64) : Calls Try.prog 45 #[.float .f64 x] W fun e W' => e = .returned (.int .i64 (classN x)) ∧ Below W.heap.size W W' := (own13ClassQ x W).mono (by rintro e W' ⟨h, rfl⟩; exact ⟨h, Below.refl _ _⟩)

set_option maxRecDepth 100000 in
set_option maxHeartbeats 2000000 in
theorem inLow (x : Nat) (most : Int) (W : World) (hx : isNum x) (h1 : most < 0) : Calls Try.prog 46 #[.float .f64 x, .int .i64 most] W fun e W' => e = .returned (.bool false) ∧ W' = W := by
  clear hx
  go_enter Try.func46, Try.ntmps46
  go_wp2_with fail
  go_ret
  exact ⟨rfl, rfl⟩

set_option maxRecDepth 100000 in
set_option maxHeartbeats 2000000 in
theorem inHigh (x : Nat) (most : Int) (W : World) (hx : isNum x) (h1 : ¬ most < 0) (h2 : most > 180) : Calls Try.prog 46 #[.float .f64 x, .int .i64 most] W fun e W' => e = .returned (.bool false) ∧ W' = W := by
  clear hx
  go_enter Try.func46, Try.ntmps46
  go_wp2_with fail
  go_ret
  exact ⟨rfl, rfl⟩

set_option maxRecDepth 100000 in
set_option maxHeartbeats 2000000 in
theorem inBelow (x : Nat) (most : Int) (W : World) (hx : isNum x) (h1 : ¬ most < 0) (h2 : ¬ most > 180) (h3 : ¬ -(most * (U : Int)) ≤ fv x) : Calls Try.prog 46 #[.float .f64 x, .int .i64 most] W fun e W' => e = .returned (.bool false) ∧ W' = W := by
  obtain ⟨m1, m2, m3, m4⟩ := most_parts (most := most) (by omega) (by omega)
  have n2 : (FloatKind.f64.format.order x (Op.negFloat .f64 (floatOfInt .f64 most)) == some .gt || FloatKind.f64.format.order x (Op.negFloat .f64 (floatOfInt .f64 most)) == some .eq) = false := by rw [geD hx m3, m4]; exact decide_eq_false h3
  clear hx h3 m1 m2 m3 m4
  go_enter Try.func46, Try.ntmps46
  go_wp2_with fail
  go_ret
  exact ⟨rfl, rfl⟩

set_option maxRecDepth 100000 in
set_option maxHeartbeats 2000000 in
theorem inAbove (x : Nat) (most : Int) (W : World) (hx : isNum x) (h1 : ¬ most < 0) (h2 : ¬ most > 180) (h3 : -(most * (U : Int)) ≤ fv x) (h4 : ¬ fv x ≤ most * (U : Int)) : Calls Try.prog 46 #[.float .f64 x, .int .i64 most] W fun e W' => e = .returned (.bool false) ∧ W' = W := by
  obtain ⟨m1, m2, m3, m4⟩ := most_parts (most := most) (by omega) (by omega)
  have n2 : (FloatKind.f64.format.order x (Op.negFloat .f64 (floatOfInt .f64 most)) == some .gt || FloatKind.f64.format.order x (Op.negFloat .f64 (floatOfInt .f64 most)) == some .eq) = true := by rw [geD hx m3, m4]; exact decide_eq_true h3
  have n3 : (FloatKind.f64.format.order x (floatOfInt .f64 most) == some .lt || FloatKind.f64.format.order x (floatOfInt .f64 most) == some .eq) = false := by rw [leD hx m1, m2]; exact decide_eq_false h4
  clear hx h3 h4 m1 m2 m3 m4
  go_enter Try.func46, Try.ntmps46
  go_wp2_with fail
  go_ret
  exact ⟨rfl, rfl⟩

set_option maxRecDepth 100000 in
set_option maxHeartbeats 2000000 in
theorem inYes (x : Nat) (most : Int) (W : World) (hx : isNum x) (h1 : ¬ most < 0) (h2 : ¬ most > 180) (h3 : -(most * (U : Int)) ≤ fv x) (h4 : fv x ≤ most * (U : Int)) : Calls Try.prog 46 #[.float .f64 x, .int .i64 most] W fun e W' => e = .returned (.bool true) ∧ W' = W := by
  obtain ⟨m1, m2, m3, m4⟩ := most_parts (most := most) (by omega) (by omega)
  have n2 : (FloatKind.f64.format.order x (Op.negFloat .f64 (floatOfInt .f64 most)) == some .gt || FloatKind.f64.format.order x (Op.negFloat .f64 (floatOfInt .f64 most)) == some .eq) = true := by rw [geD hx m3, m4]; exact decide_eq_true h3
  have n3 : (FloatKind.f64.format.order x (floatOfInt .f64 most) == some .lt || FloatKind.f64.format.order x (floatOfInt .f64 most) == some .eq) = true := by rw [leD hx m1, m2]; exact decide_eq_true h4
  clear hx h3 h4 m1 m2 m3 m4
  go_enter Try.func46, Try.ntmps46
  go_wp2_with fail
  go_ret
  exact ⟨rfl, rfl⟩

theorem own13Within (x : Nat) (most : Int) (W : World) (hx : isNum x) (b : Bool) (hb : b = true ↔ inRange x most) : Calls Try.prog 46 #[.float .f64 x, .int .i64 most] W fun e W' => e = .returned (.bool b) ∧ W' = W := by
  have no : ¬ inRange x most → b = false := fun k => by cases b; rfl; exact absurd (hb.1 rfl) k
  by_cases h1 : most < 0
  · rw [no (fun k => by have := k.1; omega)]; exact inLow x most W hx h1
  · by_cases h2 : most > 180
    · rw [no (fun k => by have := k.2.1; omega)]; exact inHigh x most W hx h1 h2
    · by_cases h3 : -(most * (U : Int)) ≤ fv x
      · by_cases h4 : fv x ≤ most * (U : Int)
        · rw [hb.2 ⟨by omega, by omega, h3, h4⟩]; exact inYes x most W hx h1 h2 h3 h4
        · rw [no (fun k => h4 k.2.2.2)]; exact inAbove x most W hx h1 h2 h3 h4
      · rw [no (fun k => h3 k.2.2.1)]; exact inBelow x most W hx h1 h2 h3

theorem callR {P : Program} {f : Nat} {args : Array Value} {V : World} {r : Value} {Q : Ending → World → Prop} (T : Calls P f args V fun e W' => e = .returned r ∧ W' = V) (K : Q (.returned r) V) : Calls P f args V Q :=
  T.mono fun e V' hk => by obtain ⟨rfl, rfl⟩ := hk; exact K
theorem class_num {x : Nat} (hx : isNum x) : ¬ classN x = 5 := by
  unfold classN
  rw [if_neg (Classical.not_not.2 hx)]
  repeat' split
  all_goals decide
theorem fix_of {x y : Nat} (y5 : fv y = fv x * 8192) : sg (fv y) (rnd (fv y).natAbs) = fixV (fv x) := by
  have hA : 8192 * (fv x).natAbs = (fv y).natAbs := by rw [y5, Int.natAbs_mul, Nat.mul_comm]; rfl
  have hs : fv x < 0 ↔ fv y < 0 := by rw [y5]; omega
  unfold fixV sg
  rw [hA]
  by_cases k : fv y < 0
  · rw [if_pos k, if_pos (hs.2 k)]
  · rw [if_neg k, if_neg (fun l => k (hs.1 l))]

set_option maxRecDepth 100000 in
set_option maxHeartbeats 2000000 in
theorem fixNaN (x : Nat) (most : Int) (W : World) (hx : ¬ isNum x) : Calls Try.prog 42 #[.float .f64 x, .int .i64 most] W fun e W' => e = .returned (.tuple #[.int .i64 (fixN x most), .int .i64 (fixE x most)]) ∧ W' = W := by
  have HE : fixE x most = 12 := by unfold fixE; rw [if_pos hx]
  have HN : fixN x most = 0 := fixN_out (by rw [HE]; decide)
  rw [HE, HN]
  clear HE HN
  have TC := fun W => own13ClassQ x W
  rw [show classN x = 5 from if_pos hx] at TC
  go_enter Try.func42, Try.ntmps42
  go_wp2_with fail
  refine callR (TC _) ?_
  go_wp2_with fail
  go_ret2
  exact ⟨rfl, rfl⟩

set_option maxRecDepth 100000 in
set_option maxHeartbeats 2000000 in
theorem fixOut (x : Nat) (most : Int) (W : World) (hx : isNum x) (h : ¬ inRange x most) : Calls Try.prog 42 #[.float .f64 x, .int .i64 most] W fun e W' => e = .returned (.tuple #[.int .i64 (fixN x most), .int .i64 (fixE x most)]) ∧ W' = W := by
  have HE : fixE x most = 13 := by unfold fixE; rw [if_neg (Classical.not_not.2 hx), if_neg h]
  have HN : fixN x most = 0 := fixN_out (by rw [HE]; decide)
  rw [HE, HN]
  clear HE HN
  have TC := fun W => own13ClassQ x W
  have c5 : ¬ classN x = 5 := class_num hx
  generalize classN x = C at *
  have TW := fun W => own13Within x most W hx false (by simp [h])
  clear hx h
  go_enter Try.func42, Try.ntmps42
  go_wp2_with fail
  refine callR (TC _) ?_
  go_wp2_with fail
  refine callR (TW _) ?_
  go_wp2_with fail
  go_ret2
  exact ⟨rfl, rfl⟩

set_option maxRecDepth 100000 in
set_option maxHeartbeats 2000000 in
theorem fixIn (x : Nat) (most : Int) (W : World) (hx : isNum x) (h : inRange x most) : Calls Try.prog 42 #[.float .f64 x, .int .i64 most] W fun e W' => e = .returned (.tuple #[.int .i64 (fixN x most), .int .i64 (fixE x most)]) ∧ W' = W := by
  have HE : fixE x most = 0 := by unfold fixE; rw [if_neg (Classical.not_not.2 hx), if_pos h]
  have HN : fixN x most = fixV (fv x) := if_pos ⟨hx, h⟩
  rw [HE, HN]
  clear HE HN
  have TC := fun W => own13ClassQ x W
  have c5 : ¬ classN x = 5 := class_num hx
  generalize classN x = C at *
  have TW := fun W => own13Within x most W hx true (by simp [h])
  obtain ⟨hf, hb⟩ := in_fin hx h
  obtain ⟨y, y1, y2, y3, y4, y5⟩ := times8192 hf hb
  have hb2 : (fv y).natAbs ≤ 180 * 8192 * U := by rw [y5, Int.natAbs_mul, show ((8192 : Int)).natAbs = 8192 from rfl, Nat.mul_right_comm]; exact Nat.mul_le_mul_right _ hb
  have TR := fun W => own13Round y W y3 y4 hb2
  have ri := round_int hb2
  have hv : sg (fv y) (rnd (fv y).natAbs) = fixV (fv x) := fix_of y5
  rw [hv] at ri
  generalize rW y = z at *
  generalize fixV (fv x) = n at *
  have p1 : ∀ t w, (binOp .mul t (.float .f64 x) (.float .f64 4665729213955833856)).run Try.prog w = .ok (.float .f64 y) w := fun t w => run_float_arith w .mul t .f64 _ _ y y1
  have p2 : ∀ w, (convert 24 3 (.float .f64 z)).run Try.prog w = .ok (.int .i64 n) w := fun w => run_convert_float_int w _ _ .f64 .i64 z n (by rw [Try.underlying24]; rfl) Try.underlying3 ri
  clear hx h hf hb hb2 y1 y2 y3 y4 y5 ri hv
  go_enter Try.func42, Try.ntmps42
  go_wp2_with fail
  refine callR (TC _) ?_
  go_wp2_with fail
  refine callR (TW _) ?_
  go_wp2_with (simp only [p1])
  refine callR (TR _) ?_
  go_wp2_with (simp only [p2])
  go_ret2
  exact ⟨rfl, rfl⟩

theorem own13Fix (x : Nat) (most : Int) (W : World) (hx : x < 2 ^ 64) (hm : -9223372036854775808 ≤ most ∧ most ≤ 9223372036854775807) : Calls Try.prog 42 #[.float .f64 x, .int .i64 most] W fun e W' => e = .returned (.tuple #[.int .i64 (fixN x most), .int .i64 (fixE x most)]) ∧ Below W.heap.size W W' := by
  have h : Calls Try.prog 42 #[.float .f64 x, .int .i64 most] W fun e W' => e = .returned (.tuple #[.int .i64 (fixN x most), .int .i64 (fixE x most)]) ∧ W' = W := by
    by_cases hn : isNum x
    · by_cases hr : inRange x most
      · exact fixIn x most W hn hr
      · exact fixOut x most W hn hr
    · exact fixNaN x most W hn
  exact h.mono (by rintro e W' ⟨hk, rfl⟩; exact ⟨hk, Below.refl _ _⟩)

end Go.Proofs.Ytdfacpppmfoiiaa

/- The program's own functions of layer 13: contracts only. -/
import Derived.Test.YtcohbjnfamccjaaRows
import Derived.Test.YtcohbjnfamccjaaFixedRef
import Derived.Test.YtcohbjnfamccjaaRoundBits
import Derived.Test.YtcohbjnfamccjaaInts
import Derived.Test.YtcohbjnfamccjaaBase
import Derived.WalkKit
import Derived.ProofKit
import Derived.Lib.Hide
import Derived.WalkLawsBesides
import Derived.Laws.Externs
namespace Go.Proofs.Ytcohbjnfamccjaa
open Go.RowKit
set_option linter.unusedVariables false
set_option linter.unusedSimpArgs false

set_option maxRecDepth 100000 in
set_option maxHeartbeats 2000000 in
theorem ownClassNaN (x : Nat) (W : World) (hx : ¬ isNum x) : Calls Try.prog 17 #[.float .f64 x] W fun e W' => e = .returned (.int .i64 (classN x)) ∧ W' = W := by
  have HC : classN x = 5 := by unfold classN; rw [if_pos hx]
  rw [HC]
  clear HC
  have n1 := neF hx
  clear hx
  go_enter Try.func17, Try.ntmps17
  go_wp2_with fail
  go_ret
  exact ⟨rfl, rfl⟩

set_option maxRecDepth 100000 in
set_option maxHeartbeats 2000000 in
theorem ownClassTop (x : Nat) (W : World) (hx : isNum x) (h1 : fv x = (mu infR : Int)) : Calls Try.prog 17 #[.float .f64 x] W fun e W' => e = .returned (.int .i64 (classN x)) ∧ W' = W := by
  have HC : classN x = 3 := by unfold classN; rw [if_neg (Classical.not_not.2 hx), if_pos h1]
  rw [HC]
  clear HC
  have n1 := neT hx
  have g1 : (FloatKind.f64.format.order x 9218868437227405311 == some .gt) = true := by have e := gtD hx top_parts.1; rw [top_parts.2.1] at e; refine e.trans ?_; exact decide_eq_true ((above_top hx).2 h1)
  clear hx h1
  go_enter Try.func17, Try.ntmps17
  go_wp2_with fail
  go_ret
  exact ⟨rfl, rfl⟩

set_option maxRecDepth 100000 in
set_option maxHeartbeats 2000000 in
theorem ownClassBot (x : Nat) (W : World) (hx : isNum x) (h1 : ¬ fv x = (mu infR : Int)) (h2 : fv x = -(mu infR : Int)) : Calls Try.prog 17 #[.float .f64 x] W fun e W' => e = .returned (.int .i64 (classN x)) ∧ W' = W := by
  have HC : classN x = 4 := by unfold classN; rw [if_neg (Classical.not_not.2 hx), if_neg h1, if_pos h2]
  rw [HC]
  clear HC
  have n1 := neT hx
  have g1 : (FloatKind.f64.format.order x 9218868437227405311 == some .gt) = false := by have e := gtD hx top_parts.1; rw [top_parts.2.1] at e; refine e.trans ?_; exact decide_eq_false (fun k => h1 ((above_top hx).1 k))
  have g2 : (FloatKind.f64.format.order x 18442240474082181119 == some .lt) = true := by have e := ltD hx top_parts.2.2.1; rw [top_parts.2.2.2] at e; refine e.trans ?_; exact decide_eq_true ((below_top hx).2 h2)
  clear hx h1 h2
  go_enter Try.func17, Try.ntmps17
  go_wp2_with fail
  go_ret
  exact ⟨rfl, rfl⟩

set_option maxRecDepth 100000 in
set_option maxHeartbeats 2000000 in
theorem ownClassPos (x : Nat) (W : World) (hx : isNum x) (h1 : ¬ fv x = (mu infR : Int)) (h2 : ¬ fv x = -(mu infR : Int)) (h3 : 0 < fv x) : Calls Try.prog 17 #[.float .f64 x] W fun e W' => e = .returned (.int .i64 (classN x)) ∧ W' = W := by
  have HC : classN x = 1 := by unfold classN; rw [if_neg (Classical.not_not.2 hx), if_neg h1, if_neg h2, if_pos h3]
  rw [HC]
  clear HC
  have n1 := neT hx
  have g1 : (FloatKind.f64.format.order x 9218868437227405311 == some .gt) = false := by have e := gtD hx top_parts.1; rw [top_parts.2.1] at e; refine e.trans ?_; exact decide_eq_false (fun k => h1 ((above_top hx).1 k))
  have g2 : (FloatKind.f64.format.order x 18442240474082181119 == some .lt) = false := by have e := ltD hx top_parts.2.2.1; rw [top_parts.2.2.2] at e; refine e.trans ?_; exact decide_eq_false (fun k => h2 ((below_top hx).1 k))
  have g3 : (FloatKind.f64.format.order x 0 == some .gt) = true := by have e := gtD hx zero_parts.1; rw [zero_parts.2] at e; refine e.trans ?_; exact decide_eq_true h3
  clear hx h1 h2 h3
  go_enter Try.func17, Try.ntmps17
  go_wp2_with fail
  go_ret
  exact ⟨rfl, rfl⟩

set_option maxRecDepth 100000 in
set_option maxHeartbeats 2000000 in
theorem ownClassNeg (x : Nat) (W : World) (hx : isNum x) (h1 : ¬ fv x = (mu infR : Int)) (h2 : ¬ fv x = -(mu infR : Int)) (h3 : ¬ 0 < fv x) (h4 : fv x < 0) : Calls Try.prog 17 #[.float .f64 x] W fun e W' => e = .returned (.int .i64 (classN x)) ∧ W' = W := by
  have HC : classN x = 2 := by unfold classN; rw [if_neg (Classical.not_not.2 hx), if_neg h1, if_neg h2, if_neg h3, if_pos h4]
  rw [HC]
  clear HC
  have n1 := neT hx
  have g1 : (FloatKind.f64.format.order x 9218868437227405311 == some .gt) = false := by have e := gtD hx top_parts.1; rw [top_parts.2.1] at e; refine e.trans ?_; exact decide_eq_false (fun k => h1 ((above_top hx).1 k))
  have g2 : (FloatKind.f64.format.order x 18442240474082181119 == some .lt) = false := by have e := ltD hx top_parts.2.2.1; rw [top_parts.2.2.2] at e; refine e.trans ?_; exact decide_eq_false (fun k => h2 ((below_top hx).1 k))
  have g3 : (FloatKind.f64.format.order x 0 == some .gt) = false := by have e := gtD hx zero_parts.1; rw [zero_parts.2] at e; refine e.trans ?_; exact decide_eq_false h3
  have g4 : (FloatKind.f64.format.order x 0 == some .lt) = true := by have e := ltD hx zero_parts.1; rw [zero_parts.2] at e; refine e.trans ?_; exact decide_eq_true h4
  clear hx h1 h2 h3 h4
  go_enter Try.func17, Try.ntmps17
  go_wp2_with fail
  go_ret
  exact ⟨rfl, rfl⟩

set_option maxRecDepth 100000 in
set_option maxHeartbeats 2000000 in
theorem ownClassZero (x : Nat) (W : World) (hx : isNum x) (h1 : ¬ fv x = (mu infR : Int)) (h2 : ¬ fv x = -(mu infR : Int)) (h3 : ¬ 0 < fv x) (h4 : ¬ fv x < 0) : Calls Try.prog 17 #[.float .f64 x] W fun e W' => e = .returned (.int .i64 (classN x)) ∧ W' = W := by
  have HC : classN x = 0 := by unfold classN; rw [if_neg (Classical.not_not.2 hx), if_neg h1, if_neg h2, if_neg h3, if_neg h4]
  rw [HC]
  clear HC
  have n1 := neT hx
  have g1 : (FloatKind.f64.format.order x 9218868437227405311 == some .gt) = false := by have e := gtD hx top_parts.1; rw [top_parts.2.1] at e; refine e.trans ?_; exact decide_eq_false (fun k => h1 ((above_top hx).1 k))
  have g2 : (FloatKind.f64.format.order x 18442240474082181119 == some .lt) = false := by have e := ltD hx top_parts.2.2.1; rw [top_parts.2.2.2] at e; refine e.trans ?_; exact decide_eq_false (fun k => h2 ((below_top hx).1 k))
  have g3 : (FloatKind.f64.format.order x 0 == some .gt) = false := by have e := gtD hx zero_parts.1; rw [zero_parts.2] at e; refine e.trans ?_; exact decide_eq_false h3
  have g4 : (FloatKind.f64.format.order x 0 == some .lt) = false := by have e := ltD hx zero_parts.1; rw [zero_parts.2] at e; refine e.trans ?_; exact decide_eq_false h4
  clear hx h1 h2 h3 h4
  go_enter Try.func17, Try.ntmps17
  go_wp2_with fail
  go_ret
  exact ⟨rfl, rfl⟩

theorem own13ClassQ (x : Nat) (W : World) : Calls Try.prog 17 #[.float .f64 x] W fun e W' => e = .returned (.int .i64 (classN x)) ∧ W' = W := by
  by_cases hx : isNum x
  · by_cases h1 : fv x = (mu infR : Int)
    · exact ownClassTop x W hx h1
    · by_cases h2 : fv x = -(mu infR : Int)
      · exact ownClassBot x W hx h1 h2
      · by_cases h3 : 0 < fv x
        · exact ownClassPos x W hx h1 h2 h3
        · by_cases h4 : fv x < 0
          · exact ownClassNeg x W hx h1 h2 h3 h4
          · exact ownClassZero x W hx h1 h2 h3 h4
  · exact ownClassNaN x W hx
theorem own13Class (x : Nat) (W : World) (hx : x < 2 ^ 64) : Calls Try.prog 17 #[.float .f64 x] W fun e W' => e = .returned (.int .i64 (classN x)) ∧ Below W.heap.size W W' := (own13ClassQ x W).mono (by rintro e W' ⟨h, rfl⟩; exact ⟨h, Below.refl _ _⟩)

theorem callR {P : Program} {f : Nat} {args : Array Value} {V : World} {r : Value} {Q : Ending → World → Prop} (T : Calls P f args V fun e W' => e = .returned r ∧ W' = V) (K : Q (.returned r) V) : Calls P f args V Q :=
  T.mono fun e V' hk => by obtain ⟨rfl, rfl⟩ := hk; exact K
theorem class_num {x : Nat} (hx : isNum x) : ¬ classN x = 5 := by
  unfold classN
  rw [if_neg (Classical.not_not.2 hx)]
  repeat' split
  all_goals decide
theorem fix_of {x y : Nat} (y5 : fv y = fv x * 8192) : sg (fv y) (rnd (fv y).natAbs) = fixV (fv x) := by
  have hA : 8192 * (fv x).natAbs = (fv y).natAbs := by rw [y5, Int.natAbs_mul, Nat.mul_comm]; rfl
  have hs : fv x < 0 ↔ fv y < 0 := by rw [y5]; omega
  unfold fixV sg
  rw [hA]
  by_cases k : fv y < 0
  · rw [if_pos k, if_pos (hs.2 k)]
  · rw [if_neg k, if_neg (fun l => k (hs.1 l))]

end Go.Proofs.Ytcohbjnfamccjaa

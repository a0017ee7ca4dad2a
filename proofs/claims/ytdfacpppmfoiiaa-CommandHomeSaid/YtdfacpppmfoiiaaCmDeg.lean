/- Degrees held against their bounds, as the law of homes does; no statement is proved here. -/
import Derived.Test.YtdfacpppmfoiiaaCmdLaw
import Derived.Test.YtdfacpppmfoiiaaCmdGo
import Derived.Deep.RegionHeld3
import Derived.WalkLawsBesides
import Derived.WalkSpells
import Derived.IntWalk
import Derived.Lib.Hide
import Derived.Test.YtdfacpppmfoiiaaBox
namespace Go.Proofs.Ytdfacpppmfoiiaa
open Go.RowKit Ieee
set_option linter.unusedVariables false
set_option linter.unusedSimpArgs false

theorem ge_at {x c : Nat} {v : Int} (hc : isNum c) (hv : fv c = v) : (FloatKind.f64.format.order x c == some .gt || FloatKind.f64.format.order x c == some .eq) = decide (isNum x ∧ v ≤ fv x) := by
  by_cases hx : isNum x
  · rw [gtD hx hc, eqD hx hc, hv, Bool.eq_iff_iff]
    simp [hx]
    omega
  · have h : FloatKind.f64.format.order x c = none := order_nan1 hx
    rw [h, decide_eq_false (fun k => hx k.1)]; rfl
theorem le_at {x c : Nat} {v : Int} (hc : isNum c) (hv : fv c = v) : (FloatKind.f64.format.order x c == some .lt || FloatKind.f64.format.order x c == some .eq) = decide (isNum x ∧ fv x ≤ v) := by
  by_cases hx : isNum x
  · rw [ltD hx hc, eqD hx hc, hv, Bool.eq_iff_iff]
    simp [hx]
    omega
  · have h : FloatKind.f64.format.order x c = none := order_nan1 hx
    rw [h, decide_eq_false (fun k => hx k.1)]; rfl
theorem fixE_iff {x : Nat} {most : Int} (h0 : 0 ≤ most) (h1 : most ≤ 180) : fixE x most = 0 ↔ (isNum x ∧ -(most * (U : Int)) ≤ fv x) ∧ (isNum x ∧ fv x ≤ most * (U : Int)) := by
  constructor
  · intro h
    obtain ⟨a, ⟨_, _, b, c⟩, _⟩ := fixE_ok h
    exact ⟨⟨a, b⟩, ⟨a, c⟩⟩
  · rintro ⟨⟨a, b⟩, ⟨_, c⟩⟩
    unfold fixE
    rw [if_neg (fun k => k a), if_pos ⟨h0, h1, b, c⟩]
theorem bounds16 : (isNum 13859405640767635456 ∧ fv 13859405640767635456 = -(90 * (U : Int))) ∧ (isNum 4636033603912859648 ∧ fv 4636033603912859648 = 90 * (U : Int)) ∧ (isNum 13863909240395005952 ∧ fv 13863909240395005952 = -(180 * (U : Int))) ∧ (isNum 4640537203540230144 ∧ fv 4640537203540230144 = 180 * (U : Int)) := by
  have h1 := whole (-90) (by decide)
  have h2 := whole 90 (by decide)
  have h3 := whole (-180) (by decide)
  have h4 := whole 180 (by decide)
  rw [show floatOfInt .f64 (-90) = 13859405640767635456 from by kernel_rfl] at h1
  rw [show floatOfInt .f64 90 = 4636033603912859648 from by kernel_rfl] at h2
  rw [show floatOfInt .f64 (-180) = 13863909240395005952 from by kernel_rfl] at h3
  rw [show floatOfInt .f64 180 = 4640537203540230144 from by kernel_rfl] at h4
  exact ⟨⟨h1.1, by rw [h1.2.2.2]; omega⟩, ⟨h2.1, h2.2.2.2⟩, ⟨h3.1, by rw [h3.2.2.2]; omega⟩, ⟨h4.1, h4.2.2.2⟩⟩

end Go.Proofs.Ytdfacpppmfoiiaa

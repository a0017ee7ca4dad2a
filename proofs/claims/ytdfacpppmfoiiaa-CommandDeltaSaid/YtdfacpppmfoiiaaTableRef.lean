/- The document's own answers of layer 15: contracts only. -/
import Derived.Test.YtdfacpppmfoiiaaRows
import Derived.Test.YtdfacpppmfoiiaaTablePlain
import Derived.Test.YtdfacpppmfoiiaaInts
import Derived.Test.YtdfacpppmfoiiaaBase
import Derived.WalkKit
import Derived.ProofKit
import Derived.Lib.Hide
import Derived.WalkLawsBesides
namespace Go.Proofs.Ytdfacpppmfoiiaa
open Go.RowKit
set_option linter.unusedVariables false
set_option linter.unusedSimpArgs false

set_option maxRecDepth 100000 in
set_option maxHeartbeats 8000000 in
theorem ref15mode (m : Int) (W : World) : Calls Try.prog 32 #[.int .i64 m] W fun e W' => e = .returned (.bool (modeB m)) ∧ W' = W := by
  by_cases h1 : m ≥ 0
  · by_cases h2 : m ≤ 5
    · rw [show modeB m = true from decide_eq_true ⟨h1, h2⟩]
      go_enter Try.func32, Try.ntmps32
      go_wp2
      go_ret
      exact ⟨rfl, rfl⟩
    · rw [show modeB m = false from decide_eq_false (fun k => h2 k.2)]
      go_enter Try.func32, Try.ntmps32
      go_wp2
      go_ret
      exact ⟨rfl, rfl⟩
  · rw [show modeB m = false from decide_eq_false (fun k => h1 k.1)]
    go_enter Try.func32, Try.ntmps32
    go_wp2
    go_ret
    exact ⟨rfl, rfl⟩

set_option maxRecDepth 100000 in
set_option maxHeartbeats 8000000 in
theorem ref15Needs (m : Int) (W : World) : Calls Try.prog 21 #[.int .i64 m] W fun e W' => e = .returned (.int .i64 (needsN m)) ∧ W' = W := by
  by_cases h1 : m = 1
  · subst h1
    rw [show needsN 1 = 1 from rfl]
    go_enter Try.func21, Try.ntmps21
    go_wp2
    go_ret
    exact ⟨rfl, rfl⟩
  · skip
    by_cases h5 : m = 5
    · subst h5
      rw [show needsN 5 = 1 from rfl]
      go_enter Try.func21, Try.ntmps21
      go_wp2
      go_ret
      exact ⟨rfl, rfl⟩
    · skip
      by_cases h2 : m = 2
      · subst h2
        rw [show needsN 2 = 2 from rfl]
        go_enter Try.func21, Try.ntmps21
        go_wp2
        go_ret
        exact ⟨rfl, rfl⟩
      · skip
        by_cases h4 : m = 4
        · subst h4
          rw [show needsN 4 = 2 from rfl]
          go_enter Try.func21, Try.ntmps21
          go_wp2
          go_ret
          exact ⟨rfl, rfl⟩
        · skip
          by_cases h3 : m = 3
          · subst h3
            rw [show needsN 3 = 3 from rfl]
            go_enter Try.func21, Try.ntmps21
            go_wp2
            go_ret
            exact ⟨rfl, rfl⟩
          · skip
            rw [show needsN m = 0 from by unfold needsN; rw [if_neg (by omega), if_neg (by omega), if_neg (by omega)]]
            have n1 : (m == 1) = false := beq_eq_false_iff_ne.2 h1
            have n5 : (m == 5) = false := beq_eq_false_iff_ne.2 h5
            have n2 : (m == 2) = false := beq_eq_false_iff_ne.2 h2
            have n4 : (m == 4) = false := beq_eq_false_iff_ne.2 h4
            have n3 : (m == 3) = false := beq_eq_false_iff_ne.2 h3
            go_enter Try.func21, Try.ntmps21
            go_wp2
            go_ret
            exact ⟨rfl, rfl⟩

set_option maxRecDepth 100000 in
set_option maxHeartbeats 8000000 in
theorem ref15Home (m : Int) (W : World) : Calls Try.prog 19 #[.int .i64 m] W fun e W' => e = .returned (.bool (homeB m)) ∧ W' = W := by
  by_cases h3 : m = 3
  · subst h3
    rw [show homeB 3 = true from rfl]
    go_enter Try.func19, Try.ntmps19
    go_wp2
    go_ret
    exact ⟨rfl, rfl⟩
  · skip
    by_cases h4 : m = 4
    · subst h4
      rw [show homeB 4 = true from rfl]
      go_enter Try.func19, Try.ntmps19
      go_wp2
      go_ret
      exact ⟨rfl, rfl⟩
    · skip
      rw [show homeB m = false from decide_eq_false (fun k => by omega)]
      have n3 : (m == 3) = false := beq_eq_false_iff_ne.2 h3
      have n4 : (m == 4) = false := beq_eq_false_iff_ne.2 h4
      go_enter Try.func19, Try.ntmps19
      go_wp2
      go_ret
      exact ⟨rfl, rfl⟩

set_option maxRecDepth 100000 in
set_option maxHeartbeats 8000000 in
theorem ref15Flying (m : Int) (W : World) : Calls Try.prog 30 #[.int .i64 m] W fun e W' => e = .returned (.bool (flyB m)) ∧ W' = W := by
  have TM := Lib.hid (fun (V : World) => ref15mode m V)
  unfold flyB
  by_cases h0 : m = 0
  · subst h0
    rw [show modeB 0 = true from rfl] at *
    go_enter Try.func30, Try.ntmps30
    go_wp2_with fail
    refine (TM.out _).mono ?_
    rintro e w' ⟨rfl, hw⟩
    rw [hw]
    clear hw w'
    go_wp2
    go_ret
    exact ⟨rfl, rfl⟩
  · have n0 : (m != 0) = true := bne_iff_ne.2 h0
    rw [decide_eq_true (show m ≠ 0 from h0)]
    cases hm : modeB m
    · rw [hm] at TM
      clear hm
      go_enter Try.func30, Try.ntmps30
      go_wp2_with fail
      refine (TM.out _).mono ?_
      rintro e w' ⟨rfl, hw⟩
      rw [hw]
      clear hw w'
      go_wp2
      go_ret
      exact ⟨rfl, rfl⟩
    · rw [hm] at TM
      clear hm
      go_enter Try.func30, Try.ntmps30
      go_wp2_with fail
      refine (TM.out _).mono ?_
      rintro e w' ⟨rfl, hw⟩
      rw [hw]
      clear hw w'
      go_wp2
      go_ret
      exact ⟨rfl, rfl⟩

set_option maxRecDepth 100000 in
set_option maxHeartbeats 8000000 in
theorem ref15Way (a b : Int) (W : World) : Calls Try.prog 18 #[.int .i64 a, .int .i64 b] W fun e W' => e = .returned (.bool (wayB a b)) ∧ W' = W := by
  have TA := Lib.hid (fun (V : World) => ref15mode a V)
  have TB := Lib.hid (fun (V : World) => ref15mode b V)
  cases ha : modeB a with
  | false =>
    rw [way_none (Or.inl ha)]
    rw [ha] at TA
    clear ha TB
    go_enter Try.func18, Try.ntmps18
    go_wp2_with fail
    refine (TA.out _).mono ?_
    rintro e w' ⟨rfl, hw⟩
    rw [hw]
    clear hw w'
    go_wp2
    go_ret
    exact ⟨rfl, rfl⟩
  | true =>
    cases hb : modeB b with
    | false =>
      rw [way_none (Or.inr hb)]
      rw [ha] at TA
      rw [hb] at TB
      clear ha hb
      go_enter Try.func18, Try.ntmps18
      go_wp2_with fail
      refine (TA.out _).mono ?_
      rintro e w' ⟨rfl, hw⟩
      rw [hw]
      clear hw w'
      go_wp2_with fail
      refine (TB.out _).mono ?_
      rintro e w' ⟨rfl, hw⟩
      rw [hw]
      clear hw w'
      go_wp2
      go_ret
      exact ⟨rfl, rfl⟩
    | true =>
      rw [ha] at TA
      rw [hb] at TB
      rcases mode_cases ha with rfl | rfl | rfl | rfl | rfl | rfl
      · rcases mode_cases hb with rfl | rfl | rfl | rfl | rfl | rfl
        · rw [show wayB 0 0 = true from rfl]
          clear ha hb
          go_enter Try.func18, Try.ntmps18
          go_wp2_with fail
          refine (TA.out _).mono ?_
          rintro e w' ⟨rfl, hw⟩
          rw [hw]
          clear hw w'
          go_wp2_with fail
          refine (TB.out _).mono ?_
          rintro e w' ⟨rfl, hw⟩
          rw [hw]
          clear hw w'
          go_wp2
          go_ret
          exact ⟨rfl, rfl⟩
        · rw [show wayB 0 1 = true from rfl]
          clear ha hb
          go_enter Try.func18, Try.ntmps18
          go_wp2_with fail
          refine (TA.out _).mono ?_
          rintro e w' ⟨rfl, hw⟩
          rw [hw]
          clear hw w'
          go_wp2_with fail
          refine (TB.out _).mono ?_
          rintro e w' ⟨rfl, hw⟩
          rw [hw]
          clear hw w'
          go_wp2
          go_ret
          exact ⟨rfl, rfl⟩
        · rw [show wayB 0 2 = false from rfl]
          clear ha hb
          go_enter Try.func18, Try.ntmps18
          go_wp2_with fail
          refine (TA.out _).mono ?_
          rintro e w' ⟨rfl, hw⟩
          rw [hw]
          clear hw w'
          go_wp2_with fail
          refine (TB.out _).mono ?_
          rintro e w' ⟨rfl, hw⟩
          rw [hw]
          clear hw w'
          go_wp2
          go_ret
          exact ⟨rfl, rfl⟩
        · rw [show wayB 0 3 = false from rfl]
          clear ha hb
          go_enter Try.func18, Try.ntmps18
          go_wp2_with fail
          refine (TA.out _).mono ?_
          rintro e w' ⟨rfl, hw⟩
          rw [hw]
          clear hw w'
          go_wp2_with fail
          refine (TB.out _).mono ?_
          rintro e w' ⟨rfl, hw⟩
          rw [hw]
          clear hw w'
          go_wp2
          go_ret
          exact ⟨rfl, rfl⟩
        · rw [show wayB 0 4 = false from rfl]
          clear ha hb
          go_enter Try.func18, Try.ntmps18
          go_wp2_with fail
          refine (TA.out _).mono ?_
          rintro e w' ⟨rfl, hw⟩
          rw [hw]
          clear hw w'
          go_wp2_with fail
          refine (TB.out _).mono ?_
          rintro e w' ⟨rfl, hw⟩
          rw [hw]
          clear hw w'
          go_wp2
          go_ret
          exact ⟨rfl, rfl⟩
        · rw [show wayB 0 5 = false from rfl]
          clear ha hb
          go_enter Try.func18, Try.ntmps18
          go_wp2_with fail
          refine (TA.out _).mono ?_
          rintro e w' ⟨rfl, hw⟩
          rw [hw]
          clear hw w'
          go_wp2_with fail
          refine (TB.out _).mono ?_
          rintro e w' ⟨rfl, hw⟩
          rw [hw]
          clear hw w'
          go_wp2
          go_ret
          exact ⟨rfl, rfl⟩
      · rcases mode_cases hb with rfl | rfl | rfl | rfl | rfl | rfl
        · rw [show wayB 1 0 = true from rfl]
          clear ha hb
          go_enter Try.func18, Try.ntmps18
          go_wp2_with fail
          refine (TA.out _).mono ?_
          rintro e w' ⟨rfl, hw⟩
          rw [hw]
          clear hw w'
          go_wp2_with fail
          refine (TB.out _).mono ?_
          rintro e w' ⟨rfl, hw⟩
          rw [hw]
          clear hw w'
          go_wp2
          go_ret
          exact ⟨rfl, rfl⟩
        · rw [show wayB 1 1 = true from rfl]
          clear ha hb
          go_enter Try.func18, Try.ntmps18
          go_wp2_with fail
          refine (TA.out _).mono ?_
          rintro e w' ⟨rfl, hw⟩
          rw [hw]
          clear hw w'
          go_wp2_with fail
          refine (TB.out _).mono ?_
          rintro e w' ⟨rfl, hw⟩
          rw [hw]
          clear hw w'
          go_wp2
          go_ret
          exact ⟨rfl, rfl⟩
        · rw [show wayB 1 2 = true from rfl]
          clear ha hb
          go_enter Try.func18, Try.ntmps18
          go_wp2_with fail
          refine (TA.out _).mono ?_
          rintro e w' ⟨rfl, hw⟩
          rw [hw]
          clear hw w'
          go_wp2_with fail
          refine (TB.out _).mono ?_
          rintro e w' ⟨rfl, hw⟩
          rw [hw]
          clear hw w'
          go_wp2
          go_ret
          exact ⟨rfl, rfl⟩
        · rw [show wayB 1 3 = true from rfl]
          clear ha hb
          go_enter Try.func18, Try.ntmps18
          go_wp2_with fail
          refine (TA.out _).mono ?_
          rintro e w' ⟨rfl, hw⟩
          rw [hw]
          clear hw w'
          go_wp2_with fail
          refine (TB.out _).mono ?_
          rintro e w' ⟨rfl, hw⟩
          rw [hw]
          clear hw w'
          go_wp2
          go_ret
          exact ⟨rfl, rfl⟩
        · rw [show wayB 1 4 = true from rfl]
          clear ha hb
          go_enter Try.func18, Try.ntmps18
          go_wp2_with fail
          refine (TA.out _).mono ?_
          rintro e w' ⟨rfl, hw⟩
          rw [hw]
          clear hw w'
          go_wp2_with fail
          refine (TB.out _).mono ?_
          rintro e w' ⟨rfl, hw⟩
          rw [hw]
          clear hw w'
          go_wp2
          go_ret
          exact ⟨rfl, rfl⟩
        · rw [show wayB 1 5 = true from rfl]
          clear ha hb
          go_enter Try.func18, Try.ntmps18
          go_wp2_with fail
          refine (TA.out _).mono ?_
          rintro e w' ⟨rfl, hw⟩
          rw [hw]
          clear hw w'
          go_wp2_with fail
          refine (TB.out _).mono ?_
          rintro e w' ⟨rfl, hw⟩
          rw [hw]
          clear hw w'
          go_wp2
          go_ret
          exact ⟨rfl, rfl⟩
      · rcases mode_cases hb with rfl | rfl | rfl | rfl | rfl | rfl
        · rw [show wayB 2 0 = false from rfl]
          clear ha hb
          go_enter Try.func18, Try.ntmps18
          go_wp2_with fail
          refine (TA.out _).mono ?_
          rintro e w' ⟨rfl, hw⟩
          rw [hw]
          clear hw w'
          go_wp2_with fail
          refine (TB.out _).mono ?_
          rintro e w' ⟨rfl, hw⟩
          rw [hw]
          clear hw w'
          go_wp2
          go_ret
          exact ⟨rfl, rfl⟩
        · rw [show wayB 2 1 = true from rfl]
          clear ha hb
          go_enter Try.func18, Try.ntmps18
          go_wp2_with fail
          refine (TA.out _).mono ?_
          rintro e w' ⟨rfl, hw⟩
          rw [hw]
          clear hw w'
          go_wp2_with fail
          refine (TB.out _).mono ?_
          rintro e w' ⟨rfl, hw⟩
          rw [hw]
          clear hw w'
          go_wp2
          go_ret
          exact ⟨rfl, rfl⟩
        · rw [show wayB 2 2 = true from rfl]
          clear ha hb
          go_enter Try.func18, Try.ntmps18
          go_wp2_with fail
          refine (TA.out _).mono ?_
          rintro e w' ⟨rfl, hw⟩
          rw [hw]
          clear hw w'
          go_wp2_with fail
          refine (TB.out _).mono ?_
          rintro e w' ⟨rfl, hw⟩
          rw [hw]
          clear hw w'
          go_wp2
          go_ret
          exact ⟨rfl, rfl⟩
        · rw [show wayB 2 3 = true from rfl]
          clear ha hb
          go_enter Try.func18, Try.ntmps18
          go_wp2_with fail
          refine (TA.out _).mono ?_
          rintro e w' ⟨rfl, hw⟩
          rw [hw]
          clear hw w'
          go_wp2_with fail
          refine (TB.out _).mono ?_
          rintro e w' ⟨rfl, hw⟩
          rw [hw]
          clear hw w'
          go_wp2
          go_ret
          exact ⟨rfl, rfl⟩
        · rw [show wayB 2 4 = true from rfl]
          clear ha hb
          go_enter Try.func18, Try.ntmps18
          go_wp2_with fail
          refine (TA.out _).mono ?_
          rintro e w' ⟨rfl, hw⟩
          rw [hw]
          clear hw w'
          go_wp2_with fail
          refine (TB.out _).mono ?_
          rintro e w' ⟨rfl, hw⟩
          rw [hw]
          clear hw w'
          go_wp2
          go_ret
          exact ⟨rfl, rfl⟩
        · rw [show wayB 2 5 = true from rfl]
          clear ha hb
          go_enter Try.func18, Try.ntmps18
          go_wp2_with fail
          refine (TA.out _).mono ?_
          rintro e w' ⟨rfl, hw⟩
          rw [hw]
          clear hw w'
          go_wp2_with fail
          refine (TB.out _).mono ?_
          rintro e w' ⟨rfl, hw⟩
          rw [hw]
          clear hw w'
          go_wp2
          go_ret
          exact ⟨rfl, rfl⟩
      · rcases mode_cases hb with rfl | rfl | rfl | rfl | rfl | rfl
        · rw [show wayB 3 0 = false from rfl]
          clear ha hb
          go_enter Try.func18, Try.ntmps18
          go_wp2_with fail
          refine (TA.out _).mono ?_
          rintro e w' ⟨rfl, hw⟩
          rw [hw]
          clear hw w'
          go_wp2_with fail
          refine (TB.out _).mono ?_
          rintro e w' ⟨rfl, hw⟩
          rw [hw]
          clear hw w'
          go_wp2
          go_ret
          exact ⟨rfl, rfl⟩
        · rw [show wayB 3 1 = true from rfl]
          clear ha hb
          go_enter Try.func18, Try.ntmps18
          go_wp2_with fail
          refine (TA.out _).mono ?_
          rintro e w' ⟨rfl, hw⟩
          rw [hw]
          clear hw w'
          go_wp2_with fail
          refine (TB.out _).mono ?_
          rintro e w' ⟨rfl, hw⟩
          rw [hw]
          clear hw w'
          go_wp2
          go_ret
          exact ⟨rfl, rfl⟩
        · rw [show wayB 3 2 = true from rfl]
          clear ha hb
          go_enter Try.func18, Try.ntmps18
          go_wp2_with fail
          refine (TA.out _).mono ?_
          rintro e w' ⟨rfl, hw⟩
          rw [hw]
          clear hw w'
          go_wp2_with fail
          refine (TB.out _).mono ?_
          rintro e w' ⟨rfl, hw⟩
          rw [hw]
          clear hw w'
          go_wp2
          go_ret
          exact ⟨rfl, rfl⟩
        · rw [show wayB 3 3 = true from rfl]
          clear ha hb
          go_enter Try.func18, Try.ntmps18
          go_wp2_with fail
          refine (TA.out _).mono ?_
          rintro e w' ⟨rfl, hw⟩
          rw [hw]
          clear hw w'
          go_wp2_with fail
          refine (TB.out _).mono ?_
          rintro e w' ⟨rfl, hw⟩
          rw [hw]
          clear hw w'
          go_wp2
          go_ret
          exact ⟨rfl, rfl⟩
        · rw [show wayB 3 4 = true from rfl]
          clear ha hb
          go_enter Try.func18, Try.ntmps18
          go_wp2_with fail
          refine (TA.out _).mono ?_
          rintro e w' ⟨rfl, hw⟩
          rw [hw]
          clear hw w'
          go_wp2_with fail
          refine (TB.out _).mono ?_
          rintro e w' ⟨rfl, hw⟩
          rw [hw]
          clear hw w'
          go_wp2
          go_ret
          exact ⟨rfl, rfl⟩
        · rw [show wayB 3 5 = true from rfl]
          clear ha hb
          go_enter Try.func18, Try.ntmps18
          go_wp2_with fail
          refine (TA.out _).mono ?_
          rintro e w' ⟨rfl, hw⟩
          rw [hw]
          clear hw w'
          go_wp2_with fail
          refine (TB.out _).mono ?_
          rintro e w' ⟨rfl, hw⟩
          rw [hw]
          clear hw w'
          go_wp2
          go_ret
          exact ⟨rfl, rfl⟩
      · rcases mode_cases hb with rfl | rfl | rfl | rfl | rfl | rfl
        · rw [show wayB 4 0 = false from rfl]
          clear ha hb
          go_enter Try.func18, Try.ntmps18
          go_wp2_with fail
          refine (TA.out _).mono ?_
          rintro e w' ⟨rfl, hw⟩
          rw [hw]
          clear hw w'
          go_wp2_with fail
          refine (TB.out _).mono ?_
          rintro e w' ⟨rfl, hw⟩
          rw [hw]
          clear hw w'
          go_wp2
          go_ret
          exact ⟨rfl, rfl⟩
        · rw [show wayB 4 1 = true from rfl]
          clear ha hb
          go_enter Try.func18, Try.ntmps18
          go_wp2_with fail
          refine (TA.out _).mono ?_
          rintro e w' ⟨rfl, hw⟩
          rw [hw]
          clear hw w'
          go_wp2_with fail
          refine (TB.out _).mono ?_
          rintro e w' ⟨rfl, hw⟩
          rw [hw]
          clear hw w'
          go_wp2
          go_ret
          exact ⟨rfl, rfl⟩
        · rw [show wayB 4 2 = true from rfl]
          clear ha hb
          go_enter Try.func18, Try.ntmps18
          go_wp2_with fail
          refine (TA.out _).mono ?_
          rintro e w' ⟨rfl, hw⟩
          rw [hw]
          clear hw w'
          go_wp2_with fail
          refine (TB.out _).mono ?_
          rintro e w' ⟨rfl, hw⟩
          rw [hw]
          clear hw w'
          go_wp2
          go_ret
          exact ⟨rfl, rfl⟩
        · rw [show wayB 4 3 = false from rfl]
          clear ha hb
          go_enter Try.func18, Try.ntmps18
          go_wp2_with fail
          refine (TA.out _).mono ?_
          rintro e w' ⟨rfl, hw⟩
          rw [hw]
          clear hw w'
          go_wp2_with fail
          refine (TB.out _).mono ?_
          rintro e w' ⟨rfl, hw⟩
          rw [hw]
          clear hw w'
          go_wp2
          go_ret
          exact ⟨rfl, rfl⟩
        · rw [show wayB 4 4 = true from rfl]
          clear ha hb
          go_enter Try.func18, Try.ntmps18
          go_wp2_with fail
          refine (TA.out _).mono ?_
          rintro e w' ⟨rfl, hw⟩
          rw [hw]
          clear hw w'
          go_wp2_with fail
          refine (TB.out _).mono ?_
          rintro e w' ⟨rfl, hw⟩
          rw [hw]
          clear hw w'
          go_wp2
          go_ret
          exact ⟨rfl, rfl⟩
        · rw [show wayB 4 5 = true from rfl]
          clear ha hb
          go_enter Try.func18, Try.ntmps18
          go_wp2_with fail
          refine (TA.out _).mono ?_
          rintro e w' ⟨rfl, hw⟩
          rw [hw]
          clear hw w'
          go_wp2_with fail
          refine (TB.out _).mono ?_
          rintro e w' ⟨rfl, hw⟩
          rw [hw]
          clear hw w'
          go_wp2
          go_ret
          exact ⟨rfl, rfl⟩
      · rcases mode_cases hb with rfl | rfl | rfl | rfl | rfl | rfl
        · rw [show wayB 5 0 = true from rfl]
          clear ha hb
          go_enter Try.func18, Try.ntmps18
          go_wp2_with fail
          refine (TA.out _).mono ?_
          rintro e w' ⟨rfl, hw⟩
          rw [hw]
          clear hw w'
          go_wp2_with fail
          refine (TB.out _).mono ?_
          rintro e w' ⟨rfl, hw⟩
          rw [hw]
          clear hw w'
          go_wp2
          go_ret
          exact ⟨rfl, rfl⟩
        · rw [show wayB 5 1 = true from rfl]
          clear ha hb
          go_enter Try.func18, Try.ntmps18
          go_wp2_with fail
          refine (TA.out _).mono ?_
          rintro e w' ⟨rfl, hw⟩
          rw [hw]
          clear hw w'
          go_wp2_with fail
          refine (TB.out _).mono ?_
          rintro e w' ⟨rfl, hw⟩
          rw [hw]
          clear hw w'
          go_wp2
          go_ret
          exact ⟨rfl, rfl⟩
        · rw [show wayB 5 2 = false from rfl]
          clear ha hb
          go_enter Try.func18, Try.ntmps18
          go_wp2_with fail
          refine (TA.out _).mono ?_
          rintro e w' ⟨rfl, hw⟩
          rw [hw]
          clear hw w'
          go_wp2_with fail
          refine (TB.out _).mono ?_
          rintro e w' ⟨rfl, hw⟩
          rw [hw]
          clear hw w'
          go_wp2
          go_ret
          exact ⟨rfl, rfl⟩
        · rw [show wayB 5 3 = false from rfl]
          clear ha hb
          go_enter Try.func18, Try.ntmps18
          go_wp2_with fail
          refine (TA.out _).mono ?_
          rintro e w' ⟨rfl, hw⟩
          rw [hw]
          clear hw w'
          go_wp2_with fail
          refine (TB.out _).mono ?_
          rintro e w' ⟨rfl, hw⟩
          rw [hw]
          clear hw w'
          go_wp2
          go_ret
          exact ⟨rfl, rfl⟩
        · rw [show wayB 5 4 = false from rfl]
          clear ha hb
          go_enter Try.func18, Try.ntmps18
          go_wp2_with fail
          refine (TA.out _).mono ?_
          rintro e w' ⟨rfl, hw⟩
          rw [hw]
          clear hw w'
          go_wp2_with fail
          refine (TB.out _).mono ?_
          rintro e w' ⟨rfl, hw⟩
          rw [hw]
          clear hw w'
          go_wp2
          go_ret
          exact ⟨rfl, rfl⟩
        · rw [show wayB 5 5 = true from rfl]
          clear ha hb
          go_enter Try.func18, Try.ntmps18
          go_wp2_with fail
          refine (TA.out _).mono ?_
          rintro e w' ⟨rfl, hw⟩
          rw [hw]
          clear hw w'
          go_wp2_with fail
          refine (TB.out _).mono ?_
          rintro e w' ⟨rfl, hw⟩
          rw [hw]
          clear hw w'
          go_wp2
          go_ret
          exact ⟨rfl, rfl⟩

end Go.Proofs.Ytdfacpppmfoiiaa

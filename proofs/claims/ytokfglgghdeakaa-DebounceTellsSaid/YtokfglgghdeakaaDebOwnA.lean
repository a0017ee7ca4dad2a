/- The program's own functions of layer 18: contracts only. -/
import Derived.Test.YtokfglgghdeakaaRows
import Derived.Test.YtokfglgghdeakaaDebPlain
import Derived.Test.YtokfglgghdeakaaIntsAt
import Derived.Test.YtokfglgghdeakaaIntsOwn
import Derived.Test.YtokfglgghdeakaaBs
import Derived.Test.YtokfglgghdeakaaInts
import Derived.WalkKit
import Derived.ProofKit
import Derived.Lib.Hide
import Derived.OwnWalk
import Derived.Deep.RegionHeld3
import Derived.WalkLawsBesides
import Derived.WalkSpells
import Derived.IntWalk
namespace Go.Proofs.Ytokfglgghdeakaa
open Go.RowKit
set_option linter.unusedVariables false
set_option linter.unusedSimpArgs false

set_option maxRecDepth 100000 in
set_option maxHeartbeats 4000000 in
theorem own18says (v : Int) (W : World) : Calls Try.prog 14 #[.int .i64 v] W fun e W' => e = .returned (.bool (says v)) ∧ W' = W := by
  unfold says
  cases h1 : v == 1 with
  | true =>
    rw [show (true || v == 2) = true from rfl]
    go_enter Try.func14, Try.ntmps14
    go_wp2
    go_ret
    exact ⟨rfl, rfl⟩
  | false =>
    rw [show (false || v == 2) = (v == 2) from rfl]
    cases h2 : v == 2 with
    | true =>
      go_enter Try.func14, Try.ntmps14
      go_wp2
      go_ret
      exact ⟨rfl, rfl⟩
    | false =>
      go_enter Try.func14, Try.ntmps14
      go_wp2
      go_ret
      exact ⟨rfl, rfl⟩

/-- One more, from 1 to 3. -/
def moreD (n : Int) : Int := if 3 ≤ n then 3 else if n < 1 then 1 else n + 1

set_option maxRecDepth 100000 in
set_option maxHeartbeats 4000000 in
theorem own18more (n : Int) (W : World) : Calls Try.prog 15 #[.int .i64 n] W fun e W' => e = .returned (.int .i64 (moreD n)) ∧ W' = W := by
  by_cases h3 : 3 ≤ n
  · skip
    rw [show moreD n = 3 from by unfold moreD; rw [if_pos h3]]
    have m1 : 0 ≤ n := by omega
    have m2 : ¬ n ≤ 2 := by omega
    clear h3
    go_enter Try.func15, Try.ntmps15
    go_wp2
    go_ret
    exact ⟨rfl, rfl⟩
  · by_cases h1 : n < 0
    · skip
      rw [show moreD n = 1 from by unfold moreD; rw [if_neg h3, if_pos (by omega)]]
      have m3 : ¬ 0 ≤ n := by omega
      clear h3 h1
      go_enter Try.func15, Try.ntmps15
      go_wp2
      go_ret
      exact ⟨rfl, rfl⟩
    · rcases (show n = 0 ∨ n = 1 ∨ n = 2 from by omega) with rfl | rfl | rfl
      · clear h1 h3
        rw [show moreD 0 = 1 from by rfl]
        go_enter Try.func15, Try.ntmps15
        go_wp2
        go_ret
        exact ⟨rfl, rfl⟩
      · clear h1 h3
        rw [show moreD 1 = 2 from by rfl]
        go_enter Try.func15, Try.ntmps15
        go_wp2
        go_ret
        exact ⟨rfl, rfl⟩
      · clear h1 h3
        rw [show moreD 2 = 3 from by rfl]
        go_enter Try.func15, Try.ntmps15
        go_wp2
        go_ret
        exact ⟨rfl, rfl⟩

set_option maxRecDepth 100000 in
set_option maxHeartbeats 4000000 in
theorem own18Add (c : Ct) (v : Int) (W : World) :
    Gives Try.prog 8 #[.agg #[.int .i64 c.vote, .int .i64 c.n], .int .i64 v] W (.agg #[.int .i64 (addD c v).vote, .int .i64 (addD c v).n]) := by
  have TS := Lib.hid (fun (V : World) => own18says v V)
  have TM := Lib.hid (fun (V : World) => own18more c.n V)
  cases hs : says v with
  | false =>
    have h1 : v ≠ 1 ∧ v ≠ 2 := by
      unfold says at hs; simpa using hs
    rw [hs] at TS
    rw [show addD c v = c from by exact if_pos h1]
    clear hs h1 TM
    have st := Bs.in2 W 23 [.int .i64 c.vote, .int .i64 c.n] 23 [.int .i64 0, .int .i64 0]
    go_enter Try.func8, Try.ntmps8
    have fc0 := (st.box 1 rfl).f2; have fc1 := (st.box 0 rfl).f2
    go_wp2_with fail; refine callQ (TS.out _) ?_
    go_wp2
    clear fc0 fc1
    replace st := Bs.in2 W 23 [.int .i64 c.vote, .int .i64 c.n] 23 [.int .i64 c.vote, .int .i64 c.n]
    have fc0 := (st.box 1 rfl).f2; have fc1 := (st.box 0 rfl).f2
    exact bodyPost_ret (v := .agg #[.int .i64 c.vote, .int .i64 c.n]) (by simp [results, Try.results8, go_sem, fc0, fc1]) rfl ⟨rfl, st.lo⟩
  | true =>
    have h1 : ¬ (v ≠ 1 ∧ v ≠ 2) := by
      have := says_iff.1 hs; omega
    rw [hs] at TS
    cases n2 : c.vote != v with
    | true =>
      have h2 : c.vote ≠ v := bne_iff_ne.1 n2
      rw [show addD c v = ⟨v, 1⟩ from by unfold addD; rw [if_neg h1, if_pos h2]]
      clear hs h1 h2 TM
      have st := Bs.in2 W 23 [.int .i64 c.vote, .int .i64 c.n] 23 [.int .i64 0, .int .i64 0]
      go_enter Try.func8, Try.ntmps8
      have fc0 := (st.box 1 rfl).f2; have fc1 := (st.box 0 rfl).f2
      go_wp2_with fail; refine callQ (TS.out _) ?_
      go_wp2
      clear fc0 fc1
      replace st := Bs.in2 W 23 [.int .i64 c.vote, .int .i64 c.n] 23 [.int .i64 v, .int .i64 1]
      have fc0 := (st.box 1 rfl).f2; have fc1 := (st.box 0 rfl).f2
      exact bodyPost_ret (v := .agg #[.int .i64 v, .int .i64 1]) (by simp [results, Try.results8, go_sem, fc0, fc1]) rfl ⟨rfl, st.lo⟩
    | false =>
      have h2 : ¬ c.vote ≠ v := by simpa using n2
      rw [show addD c v = ⟨v, moreD c.n⟩ from by unfold addD moreD; rw [if_neg h1, if_neg h2]; split; rfl; split <;> rfl]
      clear hs h1 h2
      generalize moreD c.n = k at *
      have st := Bs.in2 W 23 [.int .i64 c.vote, .int .i64 c.n] 23 [.int .i64 0, .int .i64 0]
      go_enter Try.func8, Try.ntmps8
      have fc0 := (st.box 1 rfl).f2; have fc1 := (st.box 0 rfl).f2
      go_wp2_with fail; refine callQ (TS.out _) ?_
      go_wp2_with fail; refine callQ (TM.out _) ?_
      go_wp2
      clear fc0 fc1
      replace st := Bs.in2 W 23 [.int .i64 c.vote, .int .i64 c.n] 23 [.int .i64 v, .int .i64 k]
      have fc0 := (st.box 1 rfl).f2; have fc1 := (st.box 0 rfl).f2
      exact bodyPost_ret (v := .agg #[.int .i64 v, .int .i64 k]) (by simp [results, Try.results8, go_sem, fc0, fc1]) rfl ⟨rfl, st.lo⟩

set_option maxRecDepth 100000 in
set_option maxHeartbeats 4000000 in
theorem own18Verdict (c : Ct) (W : World) :
    Gives Try.prog 12 #[.agg #[.int .i64 c.vote, .int .i64 c.n]] W (.int .i64 (verD c)) := by
  have TS := Lib.hid (fun (V : World) => own18says c.vote V)
  by_cases h3 : 3 ≤ c.n
  · have m3 : c.n ≥ 3 := h3
    cases hs : says c.vote with
    | true =>
      rw [hs] at TS
      have h1 := says_iff.1 hs
      rw [show verD c = c.vote from by exact if_pos ⟨h3, h1⟩]
      clear hs h1 h3
      have st := Bs.in1 W 23 [.int .i64 c.vote, .int .i64 c.n]
      go_enter Try.func12, Try.ntmps12
      have fc0 := (st.box 0 rfl).f2
      go_wp2_with fail; refine callQ (TS.out _) ?_
      go_wp2
      go_ret; exact ⟨rfl, st.lo⟩
    | false =>
      rw [hs] at TS
      have h1 : ¬ (c.vote = 1 ∨ c.vote = 2) := fun k => by rw [says_iff.2 k] at hs; cases hs
      rw [show verD c = 0 from by exact if_neg (fun k => h1 k.2)]
      clear hs h1 h3
      have st := Bs.in1 W 23 [.int .i64 c.vote, .int .i64 c.n]
      go_enter Try.func12, Try.ntmps12
      have fc0 := (st.box 0 rfl).f2
      go_wp2_with fail; refine callQ (TS.out _) ?_
      go_wp2
      go_ret; exact ⟨rfl, st.lo⟩
  · have m3 : ¬ c.n ≥ 3 := h3
    rw [show verD c = 0 from by exact if_neg (fun k => h3 k.1)]
    clear h3 TS
    have st := Bs.in1 W 23 [.int .i64 c.vote, .int .i64 c.n]
    go_enter Try.func12, Try.ntmps12
    have fc0 := (st.box 0 rfl).f2
    go_wp2
    go_ret; exact ⟨rfl, st.lo⟩

end Go.Proofs.Ytokfglgghdeakaa

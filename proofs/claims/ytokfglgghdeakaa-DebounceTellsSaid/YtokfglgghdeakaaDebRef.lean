/- The document's own counts, by contracts: no statement is proved here. -/
import Derived.Test.YtokfglgghdeakaaRows
import Derived.Test.YtokfglgghdeakaaDebPlain
import Derived.Test.YtokfglgghdeakaaIntsAt
import Derived.Test.YtokfglgghdeakaaIntsOwn
import Derived.Test.YtokfglgghdeakaaBs
import Derived.Test.YtokfglgghdeakaaInts
import Derived.WalkKit
import Derived.ProofKit
import Derived.Lib.Hide
import Derived.OwnWalk
import Derived.Deep.RegionHeld3
import Derived.WalkLawsBesides
import Derived.WalkSpells
import Derived.IntWalk
import Derived.Test.YtokfglgghdeakaaDebOpen
import Derived.BigQuiet
namespace Go.Proofs.Ytokfglgghdeakaa
open Go.RowKit
set_option linter.unusedVariables false
set_option linter.unusedSimpArgs false

set_option maxRecDepth 100000 in
set_option maxHeartbeats 4000000 in
theorem ref18Add (c : Ct) (v : Int) (W : World) :
    Gives Try.prog 9 #[.agg #[.int .i64 c.vote, .int .i64 c.n], .int .i64 v] W (.agg #[.int .i64 (addD c v).vote, .int .i64 (addD c v).n]) := by
  by_cases h1 : v ≠ 1 ∧ v ≠ 2
  · have n1 : (v != 1) = true := bne_iff_ne.2 h1.1
    have n2 : (v != 2) = true := bne_iff_ne.2 h1.2
    rw [show addD c v = c from by exact if_pos h1]
    clear h1
    have st := Bs.in2 W 26 [.int .i64 c.vote, .int .i64 c.n] 26 [.int .i64 c.vote, .int .i64 c.n]
    go_enter Try.func9, Try.ntmps9
    have fc0 := (st.box 1 rfl).f2; have fc1 := (st.box 0 rfl).f2
    go_wp2
    exact bodyPost_ret (v := .agg #[.int .i64 c.vote, .int .i64 c.n]) (by simp [results, Try.results9, go_sem, fc0, fc1]) rfl ⟨rfl, st.lo⟩
  · by_cases h2 : c.vote ≠ v
    · rcases (show v = 1 ∨ v = 2 from by omega) with rfl | rfl
      · rw [show addD c 1 = ⟨1, 1⟩ from by unfold addD; rw [if_neg h1, if_pos h2]]
        have n2 : (c.vote != 1) = true := bne_iff_ne.2 h2
        clear h1 h2
        have st := Bs.in2 W 26 [.int .i64 c.vote, .int .i64 c.n] 26 [.int .i64 1, .int .i64 1]
        go_enter Try.func9, Try.ntmps9
        have fc0 := (st.box 1 rfl).f2; have fc1 := (st.box 0 rfl).f2
        go_wp2
        exact bodyPost_ret (v := .agg #[.int .i64 1, .int .i64 1]) (by simp [results, Try.results9, go_sem, fc0, fc1]) rfl ⟨rfl, st.lo⟩
      · rw [show addD c 2 = ⟨2, 1⟩ from by unfold addD; rw [if_neg h1, if_pos h2]]
        have n2 : (c.vote != 2) = true := bne_iff_ne.2 h2
        clear h1 h2
        have st := Bs.in2 W 26 [.int .i64 c.vote, .int .i64 c.n] 26 [.int .i64 2, .int .i64 1]
        go_enter Try.func9, Try.ntmps9
        have fc0 := (st.box 1 rfl).f2; have fc1 := (st.box 0 rfl).f2
        go_wp2
        exact bodyPost_ret (v := .agg #[.int .i64 2, .int .i64 1]) (by simp [results, Try.results9, go_sem, fc0, fc1]) rfl ⟨rfl, st.lo⟩
    · have hv : c.vote = v := Classical.not_not.1 h2
      have n2 : (c.vote != v) = false := bne_eq_false_iff_eq.2 hv
      by_cases h3 : 3 ≤ c.n
      · have m3 : c.n ≥ 3 := h3
        rcases (show v = 1 ∨ v = 2 from by omega) with rfl | rfl
        · rw [show addD c 1 = ⟨1, 3⟩ from by unfold addD; rw [if_neg h1, if_neg h2, if_pos h3]]
          clear h1 h2 h3 hv
          have st := Bs.in2 W 26 [.int .i64 c.vote, .int .i64 c.n] 26 [.int .i64 1, .int .i64 3]
          go_enter Try.func9, Try.ntmps9
          have fc0 := (st.box 1 rfl).f2; have fc1 := (st.box 0 rfl).f2
          go_wp2
          exact bodyPost_ret (v := .agg #[.int .i64 1, .int .i64 3]) (by simp [results, Try.results9, go_sem, fc0, fc1]) rfl ⟨rfl, st.lo⟩
        · rw [show addD c 2 = ⟨2, 3⟩ from by unfold addD; rw [if_neg h1, if_neg h2, if_pos h3]]
          clear h1 h2 h3 hv
          have st := Bs.in2 W 26 [.int .i64 c.vote, .int .i64 c.n] 26 [.int .i64 2, .int .i64 3]
          go_enter Try.func9, Try.ntmps9
          have fc0 := (st.box 1 rfl).f2; have fc1 := (st.box 0 rfl).f2
          go_wp2
          exact bodyPost_ret (v := .agg #[.int .i64 2, .int .i64 3]) (by simp [results, Try.results9, go_sem, fc0, fc1]) rfl ⟨rfl, st.lo⟩
      · have m3 : ¬ c.n ≥ 3 := h3
        by_cases h4 : c.n < 1
        · skip
          rcases (show v = 1 ∨ v = 2 from by omega) with rfl | rfl
          · rw [show addD c 1 = ⟨1, 1⟩ from by unfold addD; rw [if_neg h1, if_neg h2, if_neg h3, if_pos h4]]
            clear h1 h2 h3 hv
            have st := Bs.in2 W 26 [.int .i64 c.vote, .int .i64 c.n] 26 [.int .i64 1, .int .i64 1]
            go_enter Try.func9, Try.ntmps9
            have fc0 := (st.box 1 rfl).f2; have fc1 := (st.box 0 rfl).f2
            go_wp2
            exact bodyPost_ret (v := .agg #[.int .i64 1, .int .i64 1]) (by simp [results, Try.results9, go_sem, fc0, fc1]) rfl ⟨rfl, st.lo⟩
          · rw [show addD c 2 = ⟨2, 1⟩ from by unfold addD; rw [if_neg h1, if_neg h2, if_neg h3, if_pos h4]]
            clear h1 h2 h3 hv
            have st := Bs.in2 W 26 [.int .i64 c.vote, .int .i64 c.n] 26 [.int .i64 2, .int .i64 1]
            go_enter Try.func9, Try.ntmps9
            have fc0 := (st.box 1 rfl).f2; have fc1 := (st.box 0 rfl).f2
            go_wp2
            exact bodyPost_ret (v := .agg #[.int .i64 2, .int .i64 1]) (by simp [results, Try.results9, go_sem, fc0, fc1]) rfl ⟨rfl, st.lo⟩
        · have w1 : wrap64 (c.n + 1) = c.n + 1 := by unfold wrap64; omega
          rcases (show v = 1 ∨ v = 2 from by omega) with rfl | rfl
          · rw [show addD c 1 = ⟨1, c.n + 1⟩ from by unfold addD; rw [if_neg h1, if_neg h2, if_neg h3, if_neg h4]]
            clear h1 h2 h3 hv
            have st := Bs.in2 W 26 [.int .i64 c.vote, .int .i64 c.n] 26 [.int .i64 1, .int .i64 (c.n + 1)]
            go_enter Try.func9, Try.ntmps9
            have fc0 := (st.box 1 rfl).f2; have fc1 := (st.box 0 rfl).f2
            go_wp2
            exact bodyPost_ret (v := .agg #[.int .i64 1, .int .i64 (c.n + 1)]) (by simp [results, Try.results9, go_sem, fc0, fc1]) rfl ⟨rfl, st.lo⟩
          · rw [show addD c 2 = ⟨2, c.n + 1⟩ from by unfold addD; rw [if_neg h1, if_neg h2, if_neg h3, if_neg h4]]
            clear h1 h2 h3 hv
            have st := Bs.in2 W 26 [.int .i64 c.vote, .int .i64 c.n] 26 [.int .i64 2, .int .i64 (c.n + 1)]
            go_enter Try.func9, Try.ntmps9
            have fc0 := (st.box 1 rfl).f2; have fc1 := (st.box 0 rfl).f2
            go_wp2
            exact bodyPost_ret (v := .agg #[.int .i64 2, .int .i64 (c.n + 1)]) (by simp [results, Try.results9, go_sem, fc0, fc1]) rfl ⟨rfl, st.lo⟩

set_option maxRecDepth 100000 in
set_option maxHeartbeats 4000000 in
theorem ref18Verdict (c : Ct) (W : World) :
    Gives Try.prog 13 #[.agg #[.int .i64 c.vote, .int .i64 c.n]] W (.int .i64 (verD c)) := by
  by_cases h3 : 3 ≤ c.n
  · have m3 : c.n ≥ 3 := h3
    by_cases h1 : c.vote = 1
    · have n1 : (c.vote == 1) = true := beq_iff_eq.2 h1
      rw [show verD c = c.vote from by unfold verD; exact if_pos ⟨h3, Or.inl h1⟩]
      clear h1 h3
      have st := Bs.in1 W 26 [.int .i64 c.vote, .int .i64 c.n]
      go_enter Try.func13, Try.ntmps13
      have fc0 := (st.box 0 rfl).f2
      go_wp2
      go_ret; exact ⟨rfl, st.lo⟩
    · have n1 : (c.vote == 1) = false := beq_eq_false_iff_ne.2 h1
      by_cases h2 : c.vote = 2
      · have n2 : (c.vote == 2) = true := beq_iff_eq.2 h2
        rw [show verD c = c.vote from by unfold verD; exact if_pos ⟨h3, Or.inr h2⟩]
        clear h1 h2 h3
        have st := Bs.in1 W 26 [.int .i64 c.vote, .int .i64 c.n]
        go_enter Try.func13, Try.ntmps13
        have fc0 := (st.box 0 rfl).f2
        go_wp2
        go_ret; exact ⟨rfl, st.lo⟩
      · have n2 : (c.vote == 2) = false := beq_eq_false_iff_ne.2 h2
        rw [show verD c = 0 from by unfold verD; exact if_neg (fun k => k.2.elim h1 h2)]
        clear h1 h2 h3
        have st := Bs.in1 W 26 [.int .i64 c.vote, .int .i64 c.n]
        go_enter Try.func13, Try.ntmps13
        have fc0 := (st.box 0 rfl).f2
        go_wp2
        go_ret; exact ⟨rfl, st.lo⟩
  · have m3 : ¬ c.n ≥ 3 := h3
    rw [show verD c = 0 from by unfold verD; exact if_neg (fun k => h3 k.1)]
    clear h3
    have st := Bs.in1 W 26 [.int .i64 c.vote, .int .i64 c.n]
    go_enter Try.func13, Try.ntmps13
    have fc0 := (st.box 0 rfl).f2
    go_wp2
    go_ret; exact ⟨rfl, st.lo⟩

set_option maxRecDepth 100000 in
set_option maxHeartbeats 4000000 in
theorem ref18All (c : Ct) (l : List Int) (A : Option Addr) (c' : Nat) (W : World) (hl : IntsAt W A l) (hc : l.length ≤ c' ∧ c' ≤ maxLen) :
    Gives Try.prog 11 #[.agg #[.int .i64 c.vote, .int .i64 c.n], .slice A l.length c'] W (.agg #[.int .i64 (allD c l).vote, .int .i64 (allD c l).n]) := by
  have HL := Lib.hid (fun (k : Nat) (v : Int) (hk : l[k]? = some v) => hl.hop k v hk)
  have HN := Lib.hid (fun (k : Nat) (v : Int) (hk : l[k]? = some v) => allD_take (c := c) hk)
  have HE := Lib.hid (show allD c (l.take l.length) = allD c l from by rw [List.take_length])
  have HZ := Lib.hid (show allD c (l.take 0) = c from rfl)
  clear hl
  unfold maxLen at hc
  generalize allD c l = r at *
  have st := Bs.in2 W 26 [.int .i64 c.vote, .int .i64 c.n] 26 [.int .i64 0, .int .i64 0]
  go_enter Try.func11, Try.ntmps11
  have fc0 := (st.box 1 rfl).f2; have fc1 := (st.box 0 rfl).f2
  go_wp2
  clear fc0 fc1
  go_loopw [5] (fun i w => ∃ (k : Nat) (x : Ct), k ≤ l.length ∧ i = .int .i64 k ∧ allD c (l.take k) = x ∧ Bs W w [(26, W.heap.size + 1, [.int .i64 0, .int .i64 0]), (26, W.heap.size, [.int .i64 x.vote, .int .i64 x.n])]) (fun i _ => l.length - (intOf i).toNat)
  case atStart => exact ⟨0, c, Nat.zero_le _, rfl, HZ.out, st⟩
  case round =>
    clear st; obtain ⟨k, x, hk, rfl, hx, st⟩ := hrel
    by_cases hlt : k < l.length
    · obtain ⟨v, hv⟩ : ∃ v, l[k]? = some v := ⟨_, List.getElem?_eq_getElem hlt⟩
      obtain ⟨g, off, rfl, HC⟩ := HL.out k v hv; replace HC := Lib.hid HC
      have hn := HN.out k v hv; rw [hx] at hn; replace hn := Lib.hid hn
      have TA := Lib.hid (fun (V : World) => ref18Add x v V)
      generalize addD x v = y at *
      have j0 : (0 : Int) ≤ (k : Int) := by omega
      have j1 : (k : Int) < (l.length : Int) := by omega
      have j2 : ¬ 9223372036854775807 < (k : Int) + 1 := by omega
      clear hv hx HL HN HE HZ
      go_wp2_with fail
      replace st := st.drew
      refine rh (fun w => w.cell? ⟨g, off + k, none⟩ = some (.int .i64 v)) (HC.out _ st.lo) fun hHeld => ?_
      generalize wr.drew = V1 at *
      refine tq 1 ?_; refine tq 2 ?_; refine tq 3 ?_; refine tq 4 ?_
      try simp only [Act.put, l1, l2, l3, l4, l5, l6]
      refine rd 0 fun K hK => ?_
      have fc0 := (st.box 1 rfl).f2; have fc1 := (st.box 0 rfl).f2
      go_simp
      try go_wp2_with fail
      clear hHeld fc0 fc1; refine hK.out _ _ (HC.out _ st.lo) fun hHeld => ?_; clear hK K
      try simp only [Act.put, l1, l2, l3, l4, l5, l6]
      refine rd 5 fun K hK => ?_
      have fc0 := (st.box 1 rfl).f2; have fc1 := (st.box 0 rfl).f2
      go_simp
      refine callB st (TA.out _) ?_; clear st fc0 fc1; intro V2 st
      have fc0 := (st.box 1 rfl).f2; have fc1 := (st.box 0 rfl).f2
      try go_wp2_with fail
      clear hHeld fc0 fc1; refine hK.out _ _ (HC.out _ st.lo) fun hHeld => ?_; clear hK K
      try simp only [Act.put, l1, l2, l3, l4, l5, l6]
      refine rd 6 fun K hK => ?_
      have fc0 := (st.box 1 rfl).f2; have fc1 := (st.box 0 rfl).f2
      go_simp
      try go_wp2_with fail
      clear fc0 fc1
      replace st := st.put2 1 (.int .i64 y.vote) (.int .i64 y.n) rfl; obtain ⟨V3, hV, st⟩ := st; rw [hV]; clear hV
      clear hHeld; refine hK.out _ _ (HC.out _ st.lo) fun hHeld => ?_; clear hK K
      try simp only [Act.put, l1, l2, l3, l4, l5, l6]
      refine wpAnyH_done (by kernel_rfl) ?_ _; clear hHeld
      have fc0 := (st.box 1 rfl).f2; have fc1 := (st.box 0 rfl).f2
      go_wp2
      clear fc0 fc1
      go_roundw
      case rel => exact ⟨k + 1, y, by omega, by go_num, hn.out, st⟩
      case measure => simp [intOf]; omega
    · obtain rfl : k = l.length := by omega
      obtain rfl : x = r := hx.symm.trans HE.out; clear hx HL HN HE HZ
      have fc0 := (st.box 1 rfl).f2; have fc1 := (st.box 0 rfl).f2
      go_wp2
      clear fc0 fc1
      replace st := st.put2 0 (.int .i64 x.vote) (.int .i64 x.n) rfl; obtain ⟨V1, hV, st⟩ := st; rw [hV]; clear hV
      have fc0 := (st.box 1 rfl).f2; have fc1 := (st.box 0 rfl).f2
      exact bodyPost_ret (v := .agg #[.int .i64 x.vote, .int .i64 x.n]) (by simp [results, Try.results11, go_sem, fc0, fc1]) rfl ⟨rfl, st.lo⟩

end Go.Proofs.Ytokfglgghdeakaa

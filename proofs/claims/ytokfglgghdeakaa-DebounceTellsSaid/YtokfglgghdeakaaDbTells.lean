/- Any count behind any votes, and its verdict, are the document's (DebounceTells); no condition. -/
import Derived.Test.YtokfglgghdeakaaRows
import Derived.Test.YtokfglgghdeakaaDebPlain
import Derived.Test.YtokfglgghdeakaaIntsAt
import Derived.Test.YtokfglgghdeakaaIntsOwn
import Derived.Test.YtokfglgghdeakaaBs
import Derived.Test.YtokfglgghdeakaaInts
import Derived.WalkKit
import Derived.ProofKit
import Derived.Lib.Hide
import Derived.OwnWalk
import Derived.Deep.RegionHeld3
import Derived.WalkLawsBesides
import Derived.WalkSpells
import Derived.IntWalk
import Derived.Test.YtokfglgghdeakaaDebOpen
import Derived.Test.YtokfglgghdeakaaDebOwn
import Derived.Test.YtokfglgghdeakaaDebRef
import Derived.Test.YtokfglgghdeakaaDebLaw
import Derived.Test.YtokfglgghdeakaaBase
import Derived.ProofKit
import Derived.OpenShut
import Derived.ChangeMaps5
import Derived.Test.YtokfglgghdeakaaInts
namespace Go.Proofs.Ytokfglgghdeakaa.DebounceTells
open Go.ChangeShapes Go.WideShapes Go.ChangeAt Go.RowKit Go.ChangeMaps
set_option linter.unusedVariables false
set_option linter.unusedSimpArgs false

set_option maxRecDepth 100000 in
set_option maxHeartbeats 4000000 in
theorem walk (c : Ct) (l : List Int) (lA : Option Addr) (lc : Nat) (v : Int) (W : World) (hc : c.ok) (hl : RowsAt 1 intV W lA l) (hlo : ∀ o ∈ l, -9223372036854775808 ≤ o ∧ o ≤ 9223372036854775807) (hl1 : l.length ≤ lc) (hl2 : lc ≤ maxLen) (hv : -9223372036854775808 ≤ v ∧ v ≤ 9223372036854775807) :
    Calls Try.prog 3 #[.agg #[.int .i64 c.vote, .int .i64 c.n], .slice lA l.length lc, .int .i64 v] W fun e W' => e = .returned (.bool true) ∧ Below W.heap.size W W' := by
  by_cases hbig : 100 < l.length
  · have m0 : (l.length : Int) > 100 := by omega
    clear hbig
    have st := Bs.in1 W 23 [.int .i64 c.vote, .int .i64 c.n]
    go_enter Try.func3, Try.ntmps3
    have fc0 := (st.box 0 rfl).f2
    go_wp2_with fail; refine callB st (shown18 _) ?_; clear st fc0; intro V1 st
    go_wp2; go_ret; exact ⟨rfl, st.lo⟩
  · have m0 : ¬ (l.length : Int) > 100 := by omega
    have hll := ints_of_rows hl
    have TL := Lib.hid (fun (V : World) (hV : Below W.heap.size W V) => (show Gives Try.prog 10 #[.agg #[.int .i64 c.vote, .int .i64 c.n], .slice lA l.length lc] V (.agg #[.int .i64 (allD c l).vote, .int .i64 (allD c l).n]) from own18All c l lA lc V (hll.seq hV) ⟨hl1, hl2⟩))
    have RL := Lib.hid (fun (V : World) (hV : Below W.heap.size W V) => ref18All c l lA lc V (hll.seq hV) ⟨hl1, hl2⟩)
    have TA := Lib.hid (fun (V : World) => own18Add c v V)
    have RA := Lib.hid (fun (V : World) => ref18Add c v V)
    have TV := Lib.hid (fun (V : World) => own18Verdict c V)
    have RV := Lib.hid (fun (V : World) => ref18Verdict c V)
    generalize addD c v = y at *
    generalize allD c l = r at *
    generalize verD c = q at *
    clear hbig hll hl hlo
    have st := Bs.in1 W 23 [.int .i64 c.vote, .int .i64 c.n]
    go_enter Try.func3, Try.ntmps3
    have fc0 := (st.box 0 rfl).f2
    go_wp2_with fail; refine callB st (shown18 _) ?_; clear st fc0; intro V1 st
    have fc0 := (st.box 0 rfl).f2
    go_wp2_with fail
    clear fc0
    replace st := st.alloc 26 [.int .i64 c.vote, .int .i64 c.n]
    replace st := st.name; obtain ⟨V2, hV, st⟩ := st; rw [hV]; clear hV
    replace st := st.drew
    refine rh (fun w => C2 w (W.heap.size) (.int .i64 c.vote) (.int .i64 c.n) ∧ C2 w (V1.heap.size) (.int .i64 c.vote) (.int .i64 c.n)) ⟨(st.box 1 rfl).c2, (st.box 0 rfl).c2⟩ fun hHeld => ?_
    generalize V2.drew = V3 at *
    refine tq 0 ?_; try simp only [Act.put, l1, l2, l3, l4, l5, l6]
    refine tq 1 ?_; try simp only [Act.put, l1, l2, l3, l4, l5, l6]
    refine tq 3 ?_; try simp only [Act.put, l1, l2, l3, l4, l5, l6]
    refine tq 4 ?_; try simp only [Act.put, l1, l2, l3, l4, l5, l6]
    refine rd 2 fun K hK => ?_
    have fc0 := (st.box 1 rfl).f2; have fc1 := (st.box 0 rfl).f2
    go_simp
    refine callB st (TA.out _) ?_; clear st fc0 fc1; intro V4 st
    have fc0 := (st.box 1 rfl).f2; have fc1 := (st.box 0 rfl).f2
    try go_wp2_with fail
    clear hHeld fc0 fc1; refine hK.out _ _ ⟨(st.box 1 rfl).c2, (st.box 0 rfl).c2⟩ fun hHeld => ?_; clear hK K
    try simp only [Act.put, l1, l2, l3, l4, l5, l6]
    refine rd 5 fun K hK => ?_
    have fc0 := (st.box 1 rfl).f2; have fc1 := (st.box 0 rfl).f2
    go_simp
    refine callB st (RA.out _) ?_; clear st fc0 fc1; intro V5 st
    have fc0 := (st.box 1 rfl).f2; have fc1 := (st.box 0 rfl).f2
    try go_wp2_with fail
    clear hHeld fc0 fc1; refine hK.out _ _ ⟨(st.box 1 rfl).c2, (st.box 0 rfl).c2⟩ fun hHeld => ?_; clear hK K
    try simp only [Act.put, l1, l2, l3, l4, l5, l6]
    refine tq 6 ?_; try simp only [Act.put, l1, l2, l3, l4, l5, l6]
    refine tq 7 ?_; try simp only [Act.put, l1, l2, l3, l4, l5, l6]
    refine tq 8 ?_; try simp only [Act.put, l1, l2, l3, l4, l5, l6]
    refine tq 9 ?_; try simp only [Act.put, l1, l2, l3, l4, l5, l6]
    refine tq 11 ?_; try simp only [Act.put, l1, l2, l3, l4, l5, l6]
    refine tq 12 ?_; try simp only [Act.put, l1, l2, l3, l4, l5, l6]
    refine rd 10 fun K hK => ?_
    have fc0 := (st.box 1 rfl).f2; have fc1 := (st.box 0 rfl).f2
    go_simp
    refine callB st (TL.out _ st.lo) ?_; clear st fc0 fc1; intro V6 st
    have fc0 := (st.box 1 rfl).f2; have fc1 := (st.box 0 rfl).f2
    try go_wp2_with fail
    clear hHeld fc0 fc1; refine hK.out _ _ ⟨(st.box 1 rfl).c2, (st.box 0 rfl).c2⟩ fun hHeld => ?_; clear hK K
    try simp only [Act.put, l1, l2, l3, l4, l5, l6]
    refine rd 13 fun K hK => ?_
    have fc0 := (st.box 1 rfl).f2; have fc1 := (st.box 0 rfl).f2
    go_simp
    refine callB st (RL.out _ st.lo) ?_; clear st fc0 fc1; intro V7 st
    have fc0 := (st.box 1 rfl).f2; have fc1 := (st.box 0 rfl).f2
    try go_wp2_with fail
    clear hHeld fc0 fc1; refine hK.out _ _ ⟨(st.box 1 rfl).c2, (st.box 0 rfl).c2⟩ fun hHeld => ?_; clear hK K
    try simp only [Act.put, l1, l2, l3, l4, l5, l6]
    refine tq 14 ?_; try simp only [Act.put, l1, l2, l3, l4, l5, l6]
    refine tq 15 ?_; try simp only [Act.put, l1, l2, l3, l4, l5, l6]
    refine tq 16 ?_; try simp only [Act.put, l1, l2, l3, l4, l5, l6]
    refine tq 17 ?_; try simp only [Act.put, l1, l2, l3, l4, l5, l6]
    refine tq 19 ?_; try simp only [Act.put, l1, l2, l3, l4, l5, l6]
    refine rd 18 fun K hK => ?_
    have fc0 := (st.box 1 rfl).f2; have fc1 := (st.box 0 rfl).f2
    go_simp
    refine callB st (TV.out _) ?_; clear st fc0 fc1; intro V8 st
    have fc0 := (st.box 1 rfl).f2; have fc1 := (st.box 0 rfl).f2
    try go_wp2_with fail
    clear hHeld fc0 fc1; refine hK.out _ _ ⟨(st.box 1 rfl).c2, (st.box 0 rfl).c2⟩ fun hHeld => ?_; clear hK K
    try simp only [Act.put, l1, l2, l3, l4, l5, l6]
    refine rd 20 fun K hK => ?_
    have fc0 := (st.box 1 rfl).f2; have fc1 := (st.box 0 rfl).f2
    go_simp
    refine callB st (RV.out _) ?_; clear st fc0 fc1; intro V9 st
    have fc0 := (st.box 1 rfl).f2; have fc1 := (st.box 0 rfl).f2
    try go_wp2_with fail
    clear hHeld fc0 fc1; refine hK.out _ _ ⟨(st.box 1 rfl).c2, (st.box 0 rfl).c2⟩ fun hHeld => ?_; clear hK K
    try simp only [Act.put, l1, l2, l3, l4, l5, l6]
    refine tq 21 ?_; try simp only [Act.put, l1, l2, l3, l4, l5, l6]
    refine tq 22 ?_; try simp only [Act.put, l1, l2, l3, l4, l5, l6]
    refine tq 23 ?_; try simp only [Act.put, l1, l2, l3, l4, l5, l6]
    refine wpAnyH_done (by kernel_rfl) ?_ _; clear hHeld
    have fc0 := (st.box 1 rfl).f2; have fc1 := (st.box 0 rfl).f2
    go_wp2; go_ret; exact ⟨rfl, st.lo⟩

theorem own : ownKnob Try.prog.godebug = none := by kernel_rfl

set_option maxRecDepth 100000 in
theorem lifted (os : Os) (started : os.Started) (H : Type) (enc : TypeId × Value → H) :
    ReturnsInHanded {} Try.checked os 3 .any (Rows.debounceTellsSpec.pre6 enc Try.prog Try.f3 Rows.debounceTellsRow.domain false) (Rows.debounceTellsSpec.post enc Try.prog Try.f3 false true false false) := by
  refine returnsInHanded_of_change (C := Try.checked) own started (by kernel_rfl) Try.func3
    (ChangeSpec.witness6 (enc := enc) (C := Try.checked) false ⟨#[], #[.agg #[.int .i64 0, .int .i64 0], .slice none 0 0, .int .i64 0], []⟩ 8 (by kernel_rfl) (by kernel_rfl) (by kernel_rfl) (by kernel_rfl)) ?_
  intro W base args ds gs before hval hW _ _
  have hW' := hW
  obtain ⟨p, q, hA0, hV, rfl, hfz, hnd⟩ := hW
  have hA : DataW.TrodAll enc Try.prog W 0 (fun _ => true) true Try.f3.params.toList args.toList ds p := hA0
  rw [Try.params3] at hA hval
  obtain ⟨v0, vs0, d0, ds0, p0, q0, hargs, rfl, rfl, h0, r0⟩ := trodAll_cons hA
  obtain ⟨v1, vs1, d1, ds1, p1, q1, rfl, rfl, rfl, h1, r1⟩ := trodAll_cons r0
  obtain ⟨v2, vs2, d2, ds2, p2, q2, rfl, rfl, rfl, h2, r2⟩ := trodAll_cons r1
  obtain ⟨rfl, rfl, rfl⟩ := trodAll_nil r2
  obtain rfl : args = #[v0, v1, v2] := by cases args; simp_all
  obtain ⟨rfl, rfl⟩ := trodVars_none hV
  have k0 := h0
  obtain ⟨s0, rfl, hs0⟩ := open_ct (hval 0 23 v0 rfl rfl) h0
  have k1 := h1
  obtain ⟨s1, A1, c1, rfl, hs1, ho1, hp1, hq1⟩ := open_ints (hval 1 24 v1 rfl rfl) h1
  obtain ⟨a2, rfl, rfl, rfl, w2⟩ := open_int Try.underlying3 (hval 2 3 v2 rfl rfl) h2
  clear hA0
  simp only [List.append_nil] at hW'
  refine (walk s0 s1 A1 c1 a2 W hs0 hs1 ho1 hp1 hq1 (int_i64 w2)).mono fun e W' ⟨he, hB⟩ => ?_
  subst he
  exact ⟨_, rfl, ⟨_, _, _, [], _, [], hW', trodAll_cons_mk (shut_bool Try.underlying4 _) trodAll_mk0, (trodAll_cons_mk (Below.trod Try.laidOut (by kernel_rfl) (of_decide_eq_true (by kernel_rfl)) k0 hB (fun x hx => by simpa using hW'.lt x (by simp [hx]))) (trodAll_cons_mk (Below.trod Try.laidOut (by kernel_rfl) (of_decide_eq_true (by kernel_rfl)) k1 hB (fun x hx => by simpa using hW'.lt x (by simp [hx]))) (trodAll_cons_mk (shut_int Try.underlying3 w2) trodAll_mk0))), rfl, hB.frame _, fun h => by cases h⟩⟩

theorem holds : Rows.DebounceTellsSaid :=
  OpenClaim.holds_of_wide 3 Try.f3 rfl rfl rfl rfl rfl rfl rfl ⟨rfl, rfl, rfl, rfl, rfl⟩ rfl rfl rfl rfl rfl (by kernel_rfl) Try.func3 (by kernel_rfl)
    (of_decide_eq_true (by kernel_rfl)) (by unfold Func.isWrapper; first | (rw [if_pos (by decide +kernel)]; kernel_rfl) | (rw [if_neg (by decide +kernel)]; exact ⟨rfl, rfl⟩))
    (fun os started H enc _ => lifted os started H enc)
end Go.Proofs.Ytokfglgghdeakaa.DebounceTells

/- The document's own answers of layer 16: contracts only. -/
import Derived.Test.YtdfacpppmfoiiaaRows
import Derived.Test.YtdfacpppmfoiiaaCmdPlain
import Derived.Test.YtdfacpppmfoiiaaStateRef
import Derived.Test.YtdfacpppmfoiiaaTableRef
import Derived.Test.YtdfacpppmfoiiaaFixedRef
import Derived.Test.YtdfacpppmfoiiaaBs
import Derived.WalkKit
import Derived.ProofKit
import Derived.Lib.Hide
import Derived.OwnWalk
import Derived.Deep.RegionHeld3
import Derived.WalkLawsBesides
import Derived.WalkSpells
import Derived.IntWalk
namespace Go.Proofs.Ytdfacpppmfoiiaa
open Go.RowKit
set_option linter.unusedVariables false
set_option linter.unusedSimpArgs false

set_option maxRecDepth 100000 in
set_option maxHeartbeats 8000000 in
theorem ref16Fits (s : St) (W : World) : Gives Try.prog 16 #[.agg #[.int .i64 s.mode, .bool s.armed, .bool s.home, .int .i64 s.lat, .int .i64 s.lon, .int .i64 s.iso]] W (.bool (fitsB s)) := by
  have HB : fitsB s = ((s.armed == flyB s.mode) && (s.home || !homeB s.mode) && decide (needsN s.mode ≤ (soundN s.iso : Int))) := rfl
  have TF := Lib.hid (fun (V : World) => ref15Flying s.mode V)
  have TH := Lib.hid (fun (V : World) => ref15Home s.mode V)
  have TN := Lib.hid (fun (V : World) => ref15Needs s.mode V)
  have TS := Lib.hid (fun (V : World) => ref14Sound s V)
  generalize fitsB s = B at *
  generalize flyB s.mode = fl at *
  generalize homeB s.mode = hb at *
  generalize needsN s.mode = nd at *
  generalize soundN s.iso = sn at *
  obtain ⟨mode, armed, home, lat, lon, iso⟩ := s
  dsimp only at *
  cases armed <;> cases fl
  · skip
    cases home with
    | true =>
      by_cases hn : nd ≤ (sn : Int)
      · have hB0 : B = true := by rw [HB, decide_eq_true hn]; rfl
        subst hB0
        have m1 : decide (nd ≤ (sn : Int)) = true := decide_eq_true hn
        clear HB hn
        have st := Bs.in1 W 28 [.int .i64 mode, .bool false, .bool true, .int .i64 lat, .int .i64 lon, .int .i64 iso]
        go_enter Try.func16, Try.ntmps16
        have fc0 := (st.box 0 rfl).f6
        go_wp2_with fail
        clear fc0
        replace st := st.drew
        refine rh (fun w => C6 w (W.heap.size) (.int .i64 mode) (.bool false) (.bool true) (.int .i64 lat) (.int .i64 lon) (.int .i64 iso)) ((st.box 0 rfl).c6) fun hHeld => ?_
        replace st := st.name; obtain ⟨V1, hV, st⟩ := st; rw [hV] at hHeld ⊢; clear hV
        refine tq 0 ?_; try simp only [Act.put, l1, l2, l3, l4, l5, l6]
        refine tq 1 ?_; try simp only [Act.put, l1, l2, l3, l4, l5, l6]
        refine tq 2 ?_; try simp only [Act.put, l1, l2, l3, l4, l5, l6]
        refine tq 3 ?_; try simp only [Act.put, l1, l2, l3, l4, l5, l6]
        refine rd 4 fun K hK => ?_
        have fc0 := (st.box 0 rfl).f6
        go_simp
        refine callQ (TF.out _) ?_
        try go_wp2_with fail
        clear hHeld fc0; refine hK.out _ _ ((st.box 0 rfl).c6) fun hHeld => ?_; clear hK K
        try simp only [Act.put, l1, l2, l3, l4, l5, l6]
        refine tq 5 ?_; try simp only [Act.put, l1, l2, l3, l4, l5, l6]
        refine tq 6 ?_; try simp only [Act.put, l1, l2, l3, l4, l5, l6]
        refine tq 7 ?_; try simp only [Act.put, l1, l2, l3, l4, l5, l6]
        refine tq 8 ?_; try simp only [Act.put, l1, l2, l3, l4, l5, l6]
        refine tq 9 ?_; try simp only [Act.put, l1, l2, l3, l4, l5, l6]
        refine sk 10 ?_; try simp only [Act.put, l1, l2, l3, l4, l5, l6]
        refine sk 11 ?_; try simp only [Act.put, l1, l2, l3, l4, l5, l6]
        refine sk 12 ?_; try simp only [Act.put, l1, l2, l3, l4, l5, l6]
        refine sk 13 ?_; try simp only [Act.put, l1, l2, l3, l4, l5, l6]
        refine tq 14 ?_; try simp only [Act.put, l1, l2, l3, l4, l5, l6]
        refine tq 15 ?_; try simp only [Act.put, l1, l2, l3, l4, l5, l6]
        refine tq 16 ?_; try simp only [Act.put, l1, l2, l3, l4, l5, l6]
        refine tq 17 ?_; try simp only [Act.put, l1, l2, l3, l4, l5, l6]
        refine tq 19 ?_; try simp only [Act.put, l1, l2, l3, l4, l5, l6]
        refine tq 20 ?_; try simp only [Act.put, l1, l2, l3, l4, l5, l6]
        refine rd 18 fun K hK => ?_
        have fc0 := (st.box 0 rfl).f6
        go_simp
        refine callB st (TS.out _) ?_; clear st fc0; intro V2 st
        have fc0 := (st.box 0 rfl).f6
        try go_wp2_with fail
        clear hHeld fc0; refine hK.out _ _ ((st.box 0 rfl).c6) fun hHeld => ?_; clear hK K
        try simp only [Act.put, l1, l2, l3, l4, l5, l6]
        refine rd 21 fun K hK => ?_
        have fc0 := (st.box 0 rfl).f6
        go_simp
        refine callQ (TN.out _) ?_
        try go_wp2_with fail
        clear hHeld fc0; refine hK.out _ _ ((st.box 0 rfl).c6) fun hHeld => ?_; clear hK K
        try simp only [Act.put, l1, l2, l3, l4, l5, l6]
        refine tq 22 ?_; try simp only [Act.put, l1, l2, l3, l4, l5, l6]
        refine tq 23 ?_; try simp only [Act.put, l1, l2, l3, l4, l5, l6]
        refine tq 24 ?_; try simp only [Act.put, l1, l2, l3, l4, l5, l6]
        refine wpAnyH_done (by kernel_rfl) ?_ _; clear hHeld
        have fc0 := (st.box 0 rfl).f6
        go_wp2; go_ret; exact ⟨rfl, st.lo⟩
      · have hB0 : B = false := by rw [HB, decide_eq_false hn]; rfl
        subst hB0
        have m1 : decide (nd ≤ (sn : Int)) = false := decide_eq_false hn
        clear HB hn
        have st := Bs.in1 W 28 [.int .i64 mode, .bool false, .bool true, .int .i64 lat, .int .i64 lon, .int .i64 iso]
        go_enter Try.func16, Try.ntmps16
        have fc0 := (st.box 0 rfl).f6
        go_wp2_with fail
        clear fc0
        replace st := st.drew
        refine rh (fun w => C6 w (W.heap.size) (.int .i64 mode) (.bool false) (.bool true) (.int .i64 lat) (.int .i64 lon) (.int .i64 iso)) ((st.box 0 rfl).c6) fun hHeld => ?_
        replace st := st.name; obtain ⟨V1, hV, st⟩ := st; rw [hV] at hHeld ⊢; clear hV
        refine tq 0 ?_; try simp only [Act.put, l1, l2, l3, l4, l5, l6]
        refine tq 1 ?_; try simp only [Act.put, l1, l2, l3, l4, l5, l6]
        refine tq 2 ?_; try simp only [Act.put, l1, l2, l3, l4, l5, l6]
        refine tq 3 ?_; try simp only [Act.put, l1, l2, l3, l4, l5, l6]
        refine rd 4 fun K hK => ?_
        have fc0 := (st.box 0 rfl).f6
        go_simp
        refine callQ (TF.out _) ?_
        try go_wp2_with fail
        clear hHeld fc0; refine hK.out _ _ ((st.box 0 rfl).c6) fun hHeld => ?_; clear hK K
        try simp only [Act.put, l1, l2, l3, l4, l5, l6]
        refine tq 5 ?_; try simp only [Act.put, l1, l2, l3, l4, l5, l6]
        refine tq 6 ?_; try simp only [Act.put, l1, l2, l3, l4, l5, l6]
        refine tq 7 ?_; try simp only [Act.put, l1, l2, l3, l4, l5, l6]
        refine tq 8 ?_; try simp only [Act.put, l1, l2, l3, l4, l5, l6]
        refine tq 9 ?_; try simp only [Act.put, l1, l2, l3, l4, l5, l6]
        refine sk 10 ?_; try simp only [Act.put, l1, l2, l3, l4, l5, l6]
        refine sk 11 ?_; try simp only [Act.put, l1, l2, l3, l4, l5, l6]
        refine sk 12 ?_; try simp only [Act.put, l1, l2, l3, l4, l5, l6]
        refine sk 13 ?_; try simp only [Act.put, l1, l2, l3, l4, l5, l6]
        refine tq 14 ?_; try simp only [Act.put, l1, l2, l3, l4, l5, l6]
        refine tq 15 ?_; try simp only [Act.put, l1, l2, l3, l4, l5, l6]
        refine tq 16 ?_; try simp only [Act.put, l1, l2, l3, l4, l5, l6]
        refine tq 17 ?_; try simp only [Act.put, l1, l2, l3, l4, l5, l6]
        refine tq 19 ?_; try simp only [Act.put, l1, l2, l3, l4, l5, l6]
        refine tq 20 ?_; try simp only [Act.put, l1, l2, l3, l4, l5, l6]
        refine rd 18 fun K hK => ?_
        have fc0 := (st.box 0 rfl).f6
        go_simp
        refine callB st (TS.out _) ?_; clear st fc0; intro V2 st
        have fc0 := (st.box 0 rfl).f6
        try go_wp2_with fail
        clear hHeld fc0; refine hK.out _ _ ((st.box 0 rfl).c6) fun hHeld => ?_; clear hK K
        try simp only [Act.put, l1, l2, l3, l4, l5, l6]
        refine rd 21 fun K hK => ?_
        have fc0 := (st.box 0 rfl).f6
        go_simp
        refine callQ (TN.out _) ?_
        try go_wp2_with fail
        clear hHeld fc0; refine hK.out _ _ ((st.box 0 rfl).c6) fun hHeld => ?_; clear hK K
        try simp only [Act.put, l1, l2, l3, l4, l5, l6]
        refine tq 22 ?_; try simp only [Act.put, l1, l2, l3, l4, l5, l6]
        refine tq 23 ?_; try simp only [Act.put, l1, l2, l3, l4, l5, l6]
        refine tq 24 ?_; try simp only [Act.put, l1, l2, l3, l4, l5, l6]
        refine wpAnyH_done (by kernel_rfl) ?_ _; clear hHeld
        have fc0 := (st.box 0 rfl).f6
        go_wp2; go_ret; exact ⟨rfl, st.lo⟩
    | false =>
      cases hb with
      | true =>
        have hB0 : B = false := by rw [HB]; rfl
        subst hB0
        clear HB
        have st := Bs.in1 W 28 [.int .i64 mode, .bool false, .bool false, .int .i64 lat, .int .i64 lon, .int .i64 iso]
        go_enter Try.func16, Try.ntmps16
        have fc0 := (st.box 0 rfl).f6
        go_wp2_with fail
        clear fc0
        replace st := st.drew
        refine rh (fun w => C6 w (W.heap.size) (.int .i64 mode) (.bool false) (.bool false) (.int .i64 lat) (.int .i64 lon) (.int .i64 iso)) ((st.box 0 rfl).c6) fun hHeld => ?_
        replace st := st.name; obtain ⟨V1, hV, st⟩ := st; rw [hV] at hHeld ⊢; clear hV
        refine tq 0 ?_; try simp only [Act.put, l1, l2, l3, l4, l5, l6]
        refine tq 1 ?_; try simp only [Act.put, l1, l2, l3, l4, l5, l6]
        refine tq 2 ?_; try simp only [Act.put, l1, l2, l3, l4, l5, l6]
        refine tq 3 ?_; try simp only [Act.put, l1, l2, l3, l4, l5, l6]
        refine rd 4 fun K hK => ?_
        have fc0 := (st.box 0 rfl).f6
        go_simp
        refine callQ (TF.out _) ?_
        try go_wp2_with fail
        clear hHeld fc0; refine hK.out _ _ ((st.box 0 rfl).c6) fun hHeld => ?_; clear hK K
        try simp only [Act.put, l1, l2, l3, l4, l5, l6]
        refine tq 5 ?_; try simp only [Act.put, l1, l2, l3, l4, l5, l6]
        refine tq 6 ?_; try simp only [Act.put, l1, l2, l3, l4, l5, l6]
        refine tq 7 ?_; try simp only [Act.put, l1, l2, l3, l4, l5, l6]
        refine tq 8 ?_; try simp only [Act.put, l1, l2, l3, l4, l5, l6]
        refine tq 9 ?_; try simp only [Act.put, l1, l2, l3, l4, l5, l6]
        refine tq 10 ?_; try simp only [Act.put, l1, l2, l3, l4, l5, l6]
        refine tq 11 ?_; try simp only [Act.put, l1, l2, l3, l4, l5, l6]
        refine rd 12 fun K hK => ?_
        have fc0 := (st.box 0 rfl).f6
        go_simp
        refine callQ (TH.out _) ?_
        try go_wp2_with fail
        clear hHeld fc0; refine hK.out _ _ ((st.box 0 rfl).c6) fun hHeld => ?_; clear hK K
        try simp only [Act.put, l1, l2, l3, l4, l5, l6]
        refine tq 13 ?_; try simp only [Act.put, l1, l2, l3, l4, l5, l6]
        refine tq 14 ?_; try simp only [Act.put, l1, l2, l3, l4, l5, l6]
        refine tq 15 ?_; try simp only [Act.put, l1, l2, l3, l4, l5, l6]
        refine tq 16 ?_; try simp only [Act.put, l1, l2, l3, l4, l5, l6]
        refine sk 17 ?_; try simp only [Act.put, l1, l2, l3, l4, l5, l6]
        refine sk 18 ?_; try simp only [Act.put, l1, l2, l3, l4, l5, l6]
        refine sk 19 ?_; try simp only [Act.put, l1, l2, l3, l4, l5, l6]
        refine sk 20 ?_; try simp only [Act.put, l1, l2, l3, l4, l5, l6]
        refine sk 21 ?_; try simp only [Act.put, l1, l2, l3, l4, l5, l6]
        refine sk 22 ?_; try simp only [Act.put, l1, l2, l3, l4, l5, l6]
        refine tq 23 ?_; try simp only [Act.put, l1, l2, l3, l4, l5, l6]
        refine tq 24 ?_; try simp only [Act.put, l1, l2, l3, l4, l5, l6]
        refine wpAnyH_done (by kernel_rfl) ?_ _; clear hHeld
        have fc0 := (st.box 0 rfl).f6
        go_wp2; go_ret; exact ⟨rfl, st.lo⟩
      | false =>
        by_cases hn : nd ≤ (sn : Int)
        · have hB0 : B = true := by rw [HB, decide_eq_true hn]; rfl
          subst hB0
          have m1 : decide (nd ≤ (sn : Int)) = true := decide_eq_true hn
          clear HB hn
          have st := Bs.in1 W 28 [.int .i64 mode, .bool false, .bool false, .int .i64 lat, .int .i64 lon, .int .i64 iso]
          go_enter Try.func16, Try.ntmps16
          have fc0 := (st.box 0 rfl).f6
          go_wp2_with fail
          clear fc0
          replace st := st.drew
          refine rh (fun w => C6 w (W.heap.size) (.int .i64 mode) (.bool false) (.bool false) (.int .i64 lat) (.int .i64 lon) (.int .i64 iso)) ((st.box 0 rfl).c6) fun hHeld => ?_
          replace st := st.name; obtain ⟨V1, hV, st⟩ := st; rw [hV] at hHeld ⊢; clear hV
          refine tq 0 ?_; try simp only [Act.put, l1, l2, l3, l4, l5, l6]
          refine tq 1 ?_; try simp only [Act.put, l1, l2, l3, l4, l5, l6]
          refine tq 2 ?_; try simp only [Act.put, l1, l2, l3, l4, l5, l6]
          refine tq 3 ?_; try simp only [Act.put, l1, l2, l3, l4, l5, l6]
          refine rd 4 fun K hK => ?_
          have fc0 := (st.box 0 rfl).f6
          go_simp
          refine callQ (TF.out _) ?_
          try go_wp2_with fail
          clear hHeld fc0; refine hK.out _ _ ((st.box 0 rfl).c6) fun hHeld => ?_; clear hK K
          try simp only [Act.put, l1, l2, l3, l4, l5, l6]
          refine tq 5 ?_; try simp only [Act.put, l1, l2, l3, l4, l5, l6]
          refine tq 6 ?_; try simp only [Act.put, l1, l2, l3, l4, l5, l6]
          refine tq 7 ?_; try simp only [Act.put, l1, l2, l3, l4, l5, l6]
          refine tq 8 ?_; try simp only [Act.put, l1, l2, l3, l4, l5, l6]
          refine tq 9 ?_; try simp only [Act.put, l1, l2, l3, l4, l5, l6]
          refine tq 10 ?_; try simp only [Act.put, l1, l2, l3, l4, l5, l6]
          refine tq 11 ?_; try simp only [Act.put, l1, l2, l3, l4, l5, l6]
          refine rd 12 fun K hK => ?_
          have fc0 := (st.box 0 rfl).f6
          go_simp
          refine callQ (TH.out _) ?_
          try go_wp2_with fail
          clear hHeld fc0; refine hK.out _ _ ((st.box 0 rfl).c6) fun hHeld => ?_; clear hK K
          try simp only [Act.put, l1, l2, l3, l4, l5, l6]
          refine tq 13 ?_; try simp only [Act.put, l1, l2, l3, l4, l5, l6]
          refine tq 14 ?_; try simp only [Act.put, l1, l2, l3, l4, l5, l6]
          refine tq 15 ?_; try simp only [Act.put, l1, l2, l3, l4, l5, l6]
          refine tq 16 ?_; try simp only [Act.put, l1, l2, l3, l4, l5, l6]
          refine tq 17 ?_; try simp only [Act.put, l1, l2, l3, l4, l5, l6]
          refine tq 19 ?_; try simp only [Act.put, l1, l2, l3, l4, l5, l6]
          refine tq 20 ?_; try simp only [Act.put, l1, l2, l3, l4, l5, l6]
          refine rd 18 fun K hK => ?_
          have fc0 := (st.box 0 rfl).f6
          go_simp
          refine callB st (TS.out _) ?_; clear st fc0; intro V2 st
          have fc0 := (st.box 0 rfl).f6
          try go_wp2_with fail
          clear hHeld fc0; refine hK.out _ _ ((st.box 0 rfl).c6) fun hHeld => ?_; clear hK K
          try simp only [Act.put, l1, l2, l3, l4, l5, l6]
          refine rd 21 fun K hK => ?_
          have fc0 := (st.box 0 rfl).f6
          go_simp
          refine callQ (TN.out _) ?_
          try go_wp2_with fail
          clear hHeld fc0; refine hK.out _ _ ((st.box 0 rfl).c6) fun hHeld => ?_; clear hK K
          try simp only [Act.put, l1, l2, l3, l4, l5, l6]
          refine tq 22 ?_; try simp only [Act.put, l1, l2, l3, l4, l5, l6]
          refine tq 23 ?_; try simp only [Act.put, l1, l2, l3, l4, l5, l6]
          refine tq 24 ?_; try simp only [Act.put, l1, l2, l3, l4, l5, l6]
          refine wpAnyH_done (by kernel_rfl) ?_ _; clear hHeld
          have fc0 := (st.box 0 rfl).f6
          go_wp2; go_ret; exact ⟨rfl, st.lo⟩
        · have hB0 : B = false := by rw [HB, decide_eq_false hn]; rfl
          subst hB0
          have m1 : decide (nd ≤ (sn : Int)) = false := decide_eq_false hn
          clear HB hn
          have st := Bs.in1 W 28 [.int .i64 mode, .bool false, .bool false, .int .i64 lat, .int .i64 lon, .int .i64 iso]
          go_enter Try.func16, Try.ntmps16
          have fc0 := (st.box 0 rfl).f6
          go_wp2_with fail
          clear fc0
          replace st := st.drew
          refine rh (fun w => C6 w (W.heap.size) (.int .i64 mode) (.bool false) (.bool false) (.int .i64 lat) (.int .i64 lon) (.int .i64 iso)) ((st.box 0 rfl).c6) fun hHeld => ?_
          replace st := st.name; obtain ⟨V1, hV, st⟩ := st; rw [hV] at hHeld ⊢; clear hV
          refine tq 0 ?_; try simp only [Act.put, l1, l2, l3, l4, l5, l6]
          refine tq 1 ?_; try simp only [Act.put, l1, l2, l3, l4, l5, l6]
          refine tq 2 ?_; try simp only [Act.put, l1, l2, l3, l4, l5, l6]
          refine tq 3 ?_; try simp only [Act.put, l1, l2, l3, l4, l5, l6]
          refine rd 4 fun K hK => ?_
          have fc0 := (st.box 0 rfl).f6
          go_simp
          refine callQ (TF.out _) ?_
          try go_wp2_with fail
          clear hHeld fc0; refine hK.out _ _ ((st.box 0 rfl).c6) fun hHeld => ?_; clear hK K
          try simp only [Act.put, l1, l2, l3, l4, l5, l6]
          refine tq 5 ?_; try simp only [Act.put, l1, l2, l3, l4, l5, l6]
          refine tq 6 ?_; try simp only [Act.put, l1, l2, l3, l4, l5, l6]
          refine tq 7 ?_; try simp only [Act.put, l1, l2, l3, l4, l5, l6]
          refine tq 8 ?_; try simp only [Act.put, l1, l2, l3, l4, l5, l6]
          refine tq 9 ?_; try simp only [Act.put, l1, l2, l3, l4, l5, l6]
          refine tq 10 ?_; try simp only [Act.put, l1, l2, l3, l4, l5, l6]
          refine tq 11 ?_; try simp only [Act.put, l1, l2, l3, l4, l5, l6]
          refine rd 12 fun K hK => ?_
          have fc0 := (st.box 0 rfl).f6
          go_simp
          refine callQ (TH.out _) ?_
          try go_wp2_with fail
          clear hHeld fc0; refine hK.out _ _ ((st.box 0 rfl).c6) fun hHeld => ?_; clear hK K
          try simp only [Act.put, l1, l2, l3, l4, l5, l6]
          refine tq 13 ?_; try simp only [Act.put, l1, l2, l3, l4, l5, l6]
          refine tq 14 ?_; try simp only [Act.put, l1, l2, l3, l4, l5, l6]
          refine tq 15 ?_; try simp only [Act.put, l1, l2, l3, l4, l5, l6]
          refine tq 16 ?_; try simp only [Act.put, l1, l2, l3, l4, l5, l6]
          refine tq 17 ?_; try simp only [Act.put, l1, l2, l3, l4, l5, l6]
          refine tq 19 ?_; try simp only [Act.put, l1, l2, l3, l4, l5, l6]
          refine tq 20 ?_; try simp only [Act.put, l1, l2, l3, l4, l5, l6]
          refine rd 18 fun K hK => ?_
          have fc0 := (st.box 0 rfl).f6
          go_simp
          refine callB st (TS.out _) ?_; clear st fc0; intro V2 st
          have fc0 := (st.box 0 rfl).f6
          try go_wp2_with fail
          clear hHeld fc0; refine hK.out _ _ ((st.box 0 rfl).c6) fun hHeld => ?_; clear hK K
          try simp only [Act.put, l1, l2, l3, l4, l5, l6]
          refine rd 21 fun K hK => ?_
          have fc0 := (st.box 0 rfl).f6
          go_simp
          refine callQ (TN.out _) ?_
          try go_wp2_with fail
          clear hHeld fc0; refine hK.out _ _ ((st.box 0 rfl).c6) fun hHeld => ?_; clear hK K
          try simp only [Act.put, l1, l2, l3, l4, l5, l6]
          refine tq 22 ?_; try simp only [Act.put, l1, l2, l3, l4, l5, l6]
          refine tq 23 ?_; try simp only [Act.put, l1, l2, l3, l4, l5, l6]
          refine tq 24 ?_; try simp only [Act.put, l1, l2, l3, l4, l5, l6]
          refine wpAnyH_done (by kernel_rfl) ?_ _; clear hHeld
          have fc0 := (st.box 0 rfl).f6
          go_wp2; go_ret; exact ⟨rfl, st.lo⟩
  · skip
    have hB0 : B = false := by rw [HB]; rfl
    subst hB0
    clear HB
    have st := Bs.in1 W 28 [.int .i64 mode, .bool false, .bool home, .int .i64 lat, .int .i64 lon, .int .i64 iso]
    go_enter Try.func16, Try.ntmps16
    have fc0 := (st.box 0 rfl).f6
    go_wp2_with fail
    clear fc0
    replace st := st.drew
    refine rh (fun w => C6 w (W.heap.size) (.int .i64 mode) (.bool false) (.bool home) (.int .i64 lat) (.int .i64 lon) (.int .i64 iso)) ((st.box 0 rfl).c6) fun hHeld => ?_
    replace st := st.name; obtain ⟨V1, hV, st⟩ := st; rw [hV] at hHeld ⊢; clear hV
    refine tq 0 ?_; try simp only [Act.put, l1, l2, l3, l4, l5, l6]
    refine tq 1 ?_; try simp only [Act.put, l1, l2, l3, l4, l5, l6]
    refine tq 2 ?_; try simp only [Act.put, l1, l2, l3, l4, l5, l6]
    refine tq 3 ?_; try simp only [Act.put, l1, l2, l3, l4, l5, l6]
    refine rd 4 fun K hK => ?_
    have fc0 := (st.box 0 rfl).f6
    go_simp
    refine callQ (TF.out _) ?_
    try go_wp2_with fail
    clear hHeld fc0; refine hK.out _ _ ((st.box 0 rfl).c6) fun hHeld => ?_; clear hK K
    try simp only [Act.put, l1, l2, l3, l4, l5, l6]
    refine tq 5 ?_; try simp only [Act.put, l1, l2, l3, l4, l5, l6]
    refine tq 6 ?_; try simp only [Act.put, l1, l2, l3, l4, l5, l6]
    refine sk 7 ?_; try simp only [Act.put, l1, l2, l3, l4, l5, l6]
    refine sk 8 ?_; try simp only [Act.put, l1, l2, l3, l4, l5, l6]
    refine sk 9 ?_; try simp only [Act.put, l1, l2, l3, l4, l5, l6]
    refine sk 10 ?_; try simp only [Act.put, l1, l2, l3, l4, l5, l6]
    refine sk 11 ?_; try simp only [Act.put, l1, l2, l3, l4, l5, l6]
    refine sk 12 ?_; try simp only [Act.put, l1, l2, l3, l4, l5, l6]
    refine sk 13 ?_; try simp only [Act.put, l1, l2, l3, l4, l5, l6]
    refine sk 14 ?_; try simp only [Act.put, l1, l2, l3, l4, l5, l6]
    refine tq 15 ?_; try simp only [Act.put, l1, l2, l3, l4, l5, l6]
    refine tq 16 ?_; try simp only [Act.put, l1, l2, l3, l4, l5, l6]
    refine sk 17 ?_; try simp only [Act.put, l1, l2, l3, l4, l5, l6]
    refine sk 18 ?_; try simp only [Act.put, l1, l2, l3, l4, l5, l6]
    refine sk 19 ?_; try simp only [Act.put, l1, l2, l3, l4, l5, l6]
    refine sk 20 ?_; try simp only [Act.put, l1, l2, l3, l4, l5, l6]
    refine sk 21 ?_; try simp only [Act.put, l1, l2, l3, l4, l5, l6]
    refine sk 22 ?_; try simp only [Act.put, l1, l2, l3, l4, l5, l6]
    refine tq 23 ?_; try simp only [Act.put, l1, l2, l3, l4, l5, l6]
    refine tq 24 ?_; try simp only [Act.put, l1, l2, l3, l4, l5, l6]
    refine wpAnyH_done (by kernel_rfl) ?_ _; clear hHeld
    have fc0 := (st.box 0 rfl).f6
    go_wp2; go_ret; exact ⟨rfl, st.lo⟩
  · skip
    have hB0 : B = false := by rw [HB]; rfl
    subst hB0
    clear HB
    have st := Bs.in1 W 28 [.int .i64 mode, .bool true, .bool home, .int .i64 lat, .int .i64 lon, .int .i64 iso]
    go_enter Try.func16, Try.ntmps16
    have fc0 := (st.box 0 rfl).f6
    go_wp2_with fail
    clear fc0
    replace st := st.drew
    refine rh (fun w => C6 w (W.heap.size) (.int .i64 mode) (.bool true) (.bool home) (.int .i64 lat) (.int .i64 lon) (.int .i64 iso)) ((st.box 0 rfl).c6) fun hHeld => ?_
    replace st := st.name; obtain ⟨V1, hV, st⟩ := st; rw [hV] at hHeld ⊢; clear hV
    refine tq 0 ?_; try simp only [Act.put, l1, l2, l3, l4, l5, l6]
    refine tq 1 ?_; try simp only [Act.put, l1, l2, l3, l4, l5, l6]
    refine tq 2 ?_; try simp only [Act.put, l1, l2, l3, l4, l5, l6]
    refine tq 3 ?_; try simp only [Act.put, l1, l2, l3, l4, l5, l6]
    refine rd 4 fun K hK => ?_
    have fc0 := (st.box 0 rfl).f6
    go_simp
    refine callQ (TF.out _) ?_
    try go_wp2_with fail
    clear hHeld fc0; refine hK.out _ _ ((st.box 0 rfl).c6) fun hHeld => ?_; clear hK K
    try simp only [Act.put, l1, l2, l3, l4, l5, l6]
    refine tq 5 ?_; try simp only [Act.put, l1, l2, l3, l4, l5, l6]
    refine tq 6 ?_; try simp only [Act.put, l1, l2, l3, l4, l5, l6]
    refine sk 7 ?_; try simp only [Act.put, l1, l2, l3, l4, l5, l6]
    refine sk 8 ?_; try simp only [Act.put, l1, l2, l3, l4, l5, l6]
    refine sk 9 ?_; try simp only [Act.put, l1, l2, l3, l4, l5, l6]
    refine sk 10 ?_; try simp only [Act.put, l1, l2, l3, l4, l5, l6]
    refine sk 11 ?_; try simp only [Act.put, l1, l2, l3, l4, l5, l6]
    refine sk 12 ?_; try simp only [Act.put, l1, l2, l3, l4, l5, l6]
    refine sk 13 ?_; try simp only [Act.put, l1, l2, l3, l4, l5, l6]
    refine sk 14 ?_; try simp only [Act.put, l1, l2, l3, l4, l5, l6]
    refine tq 15 ?_; try simp only [Act.put, l1, l2, l3, l4, l5, l6]
    refine tq 16 ?_; try simp only [Act.put, l1, l2, l3, l4, l5, l6]
    refine sk 17 ?_; try simp only [Act.put, l1, l2, l3, l4, l5, l6]
    refine sk 18 ?_; try simp only [Act.put, l1, l2, l3, l4, l5, l6]
    refine sk 19 ?_; try simp only [Act.put, l1, l2, l3, l4, l5, l6]
    refine sk 20 ?_; try simp only [Act.put, l1, l2, l3, l4, l5, l6]
    refine sk 21 ?_; try simp only [Act.put, l1, l2, l3, l4, l5, l6]
    refine sk 22 ?_; try simp only [Act.put, l1, l2, l3, l4, l5, l6]
    refine tq 23 ?_; try simp only [Act.put, l1, l2, l3, l4, l5, l6]
    refine tq 24 ?_; try simp only [Act.put, l1, l2, l3, l4, l5, l6]
    refine wpAnyH_done (by kernel_rfl) ?_ _; clear hHeld
    have fc0 := (st.box 0 rfl).f6
    go_wp2; go_ret; exact ⟨rfl, st.lo⟩
  · skip
    cases home with
    | true =>
      by_cases hn : nd ≤ (sn : Int)
      · have hB0 : B = true := by rw [HB, decide_eq_true hn]; rfl
        subst hB0
        have m1 : decide (nd ≤ (sn : Int)) = true := decide_eq_true hn
        clear HB hn
        have st := Bs.in1 W 28 [.int .i64 mode, .bool true, .bool true, .int .i64 lat, .int .i64 lon, .int .i64 iso]
        go_enter Try.func16, Try.ntmps16
        have fc0 := (st.box 0 rfl).f6
        go_wp2_with fail
        clear fc0
        replace st := st.drew
        refine rh (fun w => C6 w (W.heap.size) (.int .i64 mode) (.bool true) (.bool true) (.int .i64 lat) (.int .i64 lon) (.int .i64 iso)) ((st.box 0 rfl).c6) fun hHeld => ?_
        replace st := st.name; obtain ⟨V1, hV, st⟩ := st; rw [hV] at hHeld ⊢; clear hV
        refine tq 0 ?_; try simp only [Act.put, l1, l2, l3, l4, l5, l6]
        refine tq 1 ?_; try simp only [Act.put, l1, l2, l3, l4, l5, l6]
        refine tq 2 ?_; try simp only [Act.put, l1, l2, l3, l4, l5, l6]
        refine tq 3 ?_; try simp only [Act.put, l1, l2, l3, l4, l5, l6]
        refine rd 4 fun K hK => ?_
        have fc0 := (st.box 0 rfl).f6
        go_simp
        refine callQ (TF.out _) ?_
        try go_wp2_with fail
        clear hHeld fc0; refine hK.out _ _ ((st.box 0 rfl).c6) fun hHeld => ?_; clear hK K
        try simp only [Act.put, l1, l2, l3, l4, l5, l6]
        refine tq 5 ?_; try simp only [Act.put, l1, l2, l3, l4, l5, l6]
        refine tq 6 ?_; try simp only [Act.put, l1, l2, l3, l4, l5, l6]
        refine tq 7 ?_; try simp only [Act.put, l1, l2, l3, l4, l5, l6]
        refine tq 8 ?_; try simp only [Act.put, l1, l2, l3, l4, l5, l6]
        refine tq 9 ?_; try simp only [Act.put, l1, l2, l3, l4, l5, l6]
        refine sk 10 ?_; try simp only [Act.put, l1, l2, l3, l4, l5, l6]
        refine sk 11 ?_; try simp only [Act.put, l1, l2, l3, l4, l5, l6]
        refine sk 12 ?_; try simp only [Act.put, l1, l2, l3, l4, l5, l6]
        refine sk 13 ?_; try simp only [Act.put, l1, l2, l3, l4, l5, l6]
        refine tq 14 ?_; try simp only [Act.put, l1, l2, l3, l4, l5, l6]
        refine tq 15 ?_; try simp only [Act.put, l1, l2, l3, l4, l5, l6]
        refine tq 16 ?_; try simp only [Act.put, l1, l2, l3, l4, l5, l6]
        refine tq 17 ?_; try simp only [Act.put, l1, l2, l3, l4, l5, l6]
        refine tq 19 ?_; try simp only [Act.put, l1, l2, l3, l4, l5, l6]
        refine tq 20 ?_; try simp only [Act.put, l1, l2, l3, l4, l5, l6]
        refine rd 18 fun K hK => ?_
        have fc0 := (st.box 0 rfl).f6
        go_simp
        refine callB st (TS.out _) ?_; clear st fc0; intro V2 st
        have fc0 := (st.box 0 rfl).f6
        try go_wp2_with fail
        clear hHeld fc0; refine hK.out _ _ ((st.box 0 rfl).c6) fun hHeld => ?_; clear hK K
        try simp only [Act.put, l1, l2, l3, l4, l5, l6]
        refine rd 21 fun K hK => ?_
        have fc0 := (st.box 0 rfl).f6
        go_simp
        refine callQ (TN.out _) ?_
        try go_wp2_with fail
        clear hHeld fc0; refine hK.out _ _ ((st.box 0 rfl).c6) fun hHeld => ?_; clear hK K
        try simp only [Act.put, l1, l2, l3, l4, l5, l6]
        refine tq 22 ?_; try simp only [Act.put, l1, l2, l3, l4, l5, l6]
        refine tq 23 ?_; try simp only [Act.put, l1, l2, l3, l4, l5, l6]
        refine tq 24 ?_; try simp only [Act.put, l1, l2, l3, l4, l5, l6]
        refine wpAnyH_done (by kernel_rfl) ?_ _; clear hHeld
        have fc0 := (st.box 0 rfl).f6
        go_wp2; go_ret; exact ⟨rfl, st.lo⟩
      · have hB0 : B = false := by rw [HB, decide_eq_false hn]; rfl
        subst hB0
        have m1 : decide (nd ≤ (sn : Int)) = false := decide_eq_false hn
        clear HB hn
        have st := Bs.in1 W 28 [.int .i64 mode, .bool true, .bool true, .int .i64 lat, .int .i64 lon, .int .i64 iso]
        go_enter Try.func16, Try.ntmps16
        have fc0 := (st.box 0 rfl).f6
        go_wp2_with fail
        clear fc0
        replace st := st.drew
        refine rh (fun w => C6 w (W.heap.size) (.int .i64 mode) (.bool true) (.bool true) (.int .i64 lat) (.int .i64 lon) (.int .i64 iso)) ((st.box 0 rfl).c6) fun hHeld => ?_
        replace st := st.name; obtain ⟨V1, hV, st⟩ := st; rw [hV] at hHeld ⊢; clear hV
        refine tq 0 ?_; try simp only [Act.put, l1, l2, l3, l4, l5, l6]
        refine tq 1 ?_; try simp only [Act.put, l1, l2, l3, l4, l5, l6]
        refine tq 2 ?_; try simp only [Act.put, l1, l2, l3, l4, l5, l6]
        refine tq 3 ?_; try simp only [Act.put, l1, l2, l3, l4, l5, l6]
        refine rd 4 fun K hK => ?_
        have fc0 := (st.box 0 rfl).f6
        go_simp
        refine callQ (TF.out _) ?_
        try go_wp2_with fail
        clear hHeld fc0; refine hK.out _ _ ((st.box 0 rfl).c6) fun hHeld => ?_; clear hK K
        try simp only [Act.put, l1, l2, l3, l4, l5, l6]
        refine tq 5 ?_; try simp only [Act.put, l1, l2, l3, l4, l5, l6]
        refine tq 6 ?_; try simp only [Act.put, l1, l2, l3, l4, l5, l6]
        refine tq 7 ?_; try simp only [Act.put, l1, l2, l3, l4, l5, l6]
        refine tq 8 ?_; try simp only [Act.put, l1, l2, l3, l4, l5, l6]
        refine tq 9 ?_; try simp only [Act.put, l1, l2, l3, l4, l5, l6]
        refine sk 10 ?_; try simp only [Act.put, l1, l2, l3, l4, l5, l6]
        refine sk 11 ?_; try simp only [Act.put, l1, l2, l3, l4, l5, l6]
        refine sk 12 ?_; try simp only [Act.put, l1, l2, l3, l4, l5, l6]
        refine sk 13 ?_; try simp only [Act.put, l1, l2, l3, l4, l5, l6]
        refine tq 14 ?_; try simp only [Act.put, l1, l2, l3, l4, l5, l6]
        refine tq 15 ?_; try simp only [Act.put, l1, l2, l3, l4, l5, l6]
        refine tq 16 ?_; try simp only [Act.put, l1, l2, l3, l4, l5, l6]
        refine tq 17 ?_; try simp only [Act.put, l1, l2, l3, l4, l5, l6]
        refine tq 19 ?_; try simp only [Act.put, l1, l2, l3, l4, l5, l6]
        refine tq 20 ?_; try simp only [Act.put, l1, l2, l3, l4, l5, l6]
        refine rd 18 fun K hK => ?_
        have fc0 := (st.box 0 rfl).f6
        go_simp
        refine callB st (TS.out _) ?_; clear st fc0; intro V2 st
        have fc0 := (st.box 0 rfl).f6
        try go_wp2_with fail
        clear hHeld fc0; refine hK.out _ _ ((st.box 0 rfl).c6) fun hHeld => ?_; clear hK K
        try simp only [Act.put, l1, l2, l3, l4, l5, l6]
        refine rd 21 fun K hK => ?_
        have fc0 := (st.box 0 rfl).f6
        go_simp
        refine callQ (TN.out _) ?_
        try go_wp2_with fail
        clear hHeld fc0; refine hK.out _ _ ((st.box 0 rfl).c6) fun hHeld => ?_; clear hK K
        try simp only [Act.put, l1, l2, l3, l4, l5, l6]
        refine tq 22 ?_; try simp only [Act.put, l1, l2, l3, l4, l5, l6]
        refine tq 23 ?_; try simp only [Act.put, l1, l2, l3, l4, l5, l6]
        refine tq 24 ?_; try simp only [Act.put, l1, l2, l3, l4, l5, l6]
        refine wpAnyH_done (by kernel_rfl) ?_ _; clear hHeld
        have fc0 := (st.box 0 rfl).f6
        go_wp2; go_ret; exact ⟨rfl, st.lo⟩
    | false =>
      cases hb with
      | true =>
        have hB0 : B = false := by rw [HB]; rfl
        subst hB0
        clear HB
        have st := Bs.in1 W 28 [.int .i64 mode, .bool true, .bool false, .int .i64 lat, .int .i64 lon, .int .i64 iso]
        go_enter Try.func16, Try.ntmps16
        have fc0 := (st.box 0 rfl).f6
        go_wp2_with fail
        clear fc0
        replace st := st.drew
        refine rh (fun w => C6 w (W.heap.size) (.int .i64 mode) (.bool true) (.bool false) (.int .i64 lat) (.int .i64 lon) (.int .i64 iso)) ((st.box 0 rfl).c6) fun hHeld => ?_
        replace st := st.name; obtain ⟨V1, hV, st⟩ := st; rw [hV] at hHeld ⊢; clear hV
        refine tq 0 ?_; try simp only [Act.put, l1, l2, l3, l4, l5, l6]
        refine tq 1 ?_; try simp only [Act.put, l1, l2, l3, l4, l5, l6]
        refine tq 2 ?_; try simp only [Act.put, l1, l2, l3, l4, l5, l6]
        refine tq 3 ?_; try simp only [Act.put, l1, l2, l3, l4, l5, l6]
        refine rd 4 fun K hK => ?_
        have fc0 := (st.box 0 rfl).f6
        go_simp
        refine callQ (TF.out _) ?_
        try go_wp2_with fail
        clear hHeld fc0; refine hK.out _ _ ((st.box 0 rfl).c6) fun hHeld => ?_; clear hK K
        try simp only [Act.put, l1, l2, l3, l4, l5, l6]
        refine tq 5 ?_; try simp only [Act.put, l1, l2, l3, l4, l5, l6]
        refine tq 6 ?_; try simp only [Act.put, l1, l2, l3, l4, l5, l6]
        refine tq 7 ?_; try simp only [Act.put, l1, l2, l3, l4, l5, l6]
        refine tq 8 ?_; try simp only [Act.put, l1, l2, l3, l4, l5, l6]
        refine tq 9 ?_; try simp only [Act.put, l1, l2, l3, l4, l5, l6]
        refine tq 10 ?_; try simp only [Act.put, l1, l2, l3, l4, l5, l6]
        refine tq 11 ?_; try simp only [Act.put, l1, l2, l3, l4, l5, l6]
        refine rd 12 fun K hK => ?_
        have fc0 := (st.box 0 rfl).f6
        go_simp
        refine callQ (TH.out _) ?_
        try go_wp2_with fail
        clear hHeld fc0; refine hK.out _ _ ((st.box 0 rfl).c6) fun hHeld => ?_; clear hK K
        try simp only [Act.put, l1, l2, l3, l4, l5, l6]
        refine tq 13 ?_; try simp only [Act.put, l1, l2, l3, l4, l5, l6]
        refine tq 14 ?_; try simp only [Act.put, l1, l2, l3, l4, l5, l6]
        refine tq 15 ?_; try simp only [Act.put, l1, l2, l3, l4, l5, l6]
        refine tq 16 ?_; try simp only [Act.put, l1, l2, l3, l4, l5, l6]
        refine sk 17 ?_; try simp only [Act.put, l1, l2, l3, l4, l5, l6]
        refine sk 18 ?_; try simp only [Act.put, l1, l2, l3, l4, l5, l6]
        refine sk 19 ?_; try simp only [Act.put, l1, l2, l3, l4, l5, l6]
        refine sk 20 ?_; try simp only [Act.put, l1, l2, l3, l4, l5, l6]
        refine sk 21 ?_; try simp only [Act.put, l1, l2, l3, l4, l5, l6]
        refine sk 22 ?_; try simp only [Act.put, l1, l2, l3, l4, l5, l6]
        refine tq 23 ?_; try simp only [Act.put, l1, l2, l3, l4, l5, l6]
        refine tq 24 ?_; try simp only [Act.put, l1, l2, l3, l4, l5, l6]
        refine wpAnyH_done (by kernel_rfl) ?_ _; clear hHeld
        have fc0 := (st.box 0 rfl).f6
        go_wp2; go_ret; exact ⟨rfl, st.lo⟩
      | false =>
        by_cases hn : nd ≤ (sn : Int)
        · have hB0 : B = true := by rw [HB, decide_eq_true hn]; rfl
          subst hB0
          have m1 : decide (nd ≤ (sn : Int)) = true := decide_eq_true hn
          clear HB hn
          have st := Bs.in1 W 28 [.int .i64 mode, .bool true, .bool false, .int .i64 lat, .int .i64 lon, .int .i64 iso]
          go_enter Try.func16, Try.ntmps16
          have fc0 := (st.box 0 rfl).f6
          go_wp2_with fail
          clear fc0
          replace st := st.drew
          refine rh (fun w => C6 w (W.heap.size) (.int .i64 mode) (.bool true) (.bool false) (.int .i64 lat) (.int .i64 lon) (.int .i64 iso)) ((st.box 0 rfl).c6) fun hHeld => ?_
          replace st := st.name; obtain ⟨V1, hV, st⟩ := st; rw [hV] at hHeld ⊢; clear hV
          refine tq 0 ?_; try simp only [Act.put, l1, l2, l3, l4, l5, l6]
          refine tq 1 ?_; try simp only [Act.put, l1, l2, l3, l4, l5, l6]
          refine tq 2 ?_; try simp only [Act.put, l1, l2, l3, l4, l5, l6]
          refine tq 3 ?_; try simp only [Act.put, l1, l2, l3, l4, l5, l6]
          refine rd 4 fun K hK => ?_
          have fc0 := (st.box 0 rfl).f6
          go_simp
          refine callQ (TF.out _) ?_
          try go_wp2_with fail
          clear hHeld fc0; refine hK.out _ _ ((st.box 0 rfl).c6) fun hHeld => ?_; clear hK K
          try simp only [Act.put, l1, l2, l3, l4, l5, l6]
          refine tq 5 ?_; try simp only [Act.put, l1, l2, l3, l4, l5, l6]
          refine tq 6 ?_; try simp only [Act.put, l1, l2, l3, l4, l5, l6]
          refine tq 7 ?_; try simp only [Act.put, l1, l2, l3, l4, l5, l6]
          refine tq 8 ?_; try simp only [Act.put, l1, l2, l3, l4, l5, l6]
          refine tq 9 ?_; try simp only [Act.put, l1, l2, l3, l4, l5, l6]
          refine tq 10 ?_; try simp only [Act.put, l1, l2, l3, l4, l5, l6]
          refine tq 11 ?_; try simp only [Act.put, l1, l2, l3, l4, l5, l6]
          refine rd 12 fun K hK => ?_
          have fc0 := (st.box 0 rfl).f6
          go_simp
          refine callQ (TH.out _) ?_
          try go_wp2_with fail
          clear hHeld fc0; refine hK.out _ _ ((st.box 0 rfl).c6) fun hHeld => ?_; clear hK K
          try simp only [Act.put, l1, l2, l3, l4, l5, l6]
          refine tq 13 ?_; try simp only [Act.put, l1, l2, l3, l4, l5, l6]
          refine tq 14 ?_; try simp only [Act.put, l1, l2, l3, l4, l5, l6]
          refine tq 15 ?_; try simp only [Act.put, l1, l2, l3, l4, l5, l6]
          refine tq 16 ?_; try simp only [Act.put, l1, l2, l3, l4, l5, l6]
          refine tq 17 ?_; try simp only [Act.put, l1, l2, l3, l4, l5, l6]
          refine tq 19 ?_; try simp only [Act.put, l1, l2, l3, l4, l5, l6]
          refine tq 20 ?_; try simp only [Act.put, l1, l2, l3, l4, l5, l6]
          refine rd 18 fun K hK => ?_
          have fc0 := (st.box 0 rfl).f6
          go_simp
          refine callB st (TS.out _) ?_; clear st fc0; intro V2 st
          have fc0 := (st.box 0 rfl).f6
          try go_wp2_with fail
          clear hHeld fc0; refine hK.out _ _ ((st.box 0 rfl).c6) fun hHeld => ?_; clear hK K
          try simp only [Act.put, l1, l2, l3, l4, l5, l6]
          refine rd 21 fun K hK => ?_
          have fc0 := (st.box 0 rfl).f6
          go_simp
          refine callQ (TN.out _) ?_
          try go_wp2_with fail
          clear hHeld fc0; refine hK.out _ _ ((st.box 0 rfl).c6) fun hHeld => ?_; clear hK K
          try simp only [Act.put, l1, l2, l3, l4, l5, l6]
          refine tq 22 ?_; try simp only [Act.put, l1, l2, l3, l4, l5, l6]
          refine tq 23 ?_; try simp only [Act.put, l1, l2, l3, l4, l5, l6]
          refine tq 24 ?_; try simp only [Act.put, l1, l2, l3, l4, l5, l6]
          refine wpAnyH_done (by kernel_rfl) ?_ _; clear hHeld
          have fc0 := (st.box 0 rfl).f6
          go_wp2; go_ret; exact ⟨rfl, st.lo⟩
        · have hB0 : B = false := by rw [HB, decide_eq_false hn]; rfl
          subst hB0
          have m1 : decide (nd ≤ (sn : Int)) = false := decide_eq_false hn
          clear HB hn
          have st := Bs.in1 W 28 [.int .i64 mode, .bool true, .bool false, .int .i64 lat, .int .i64 lon, .int .i64 iso]
          go_enter Try.func16, Try.ntmps16
          have fc0 := (st.box 0 rfl).f6
          go_wp2_with fail
          clear fc0
          replace st := st.drew
          refine rh (fun w => C6 w (W.heap.size) (.int .i64 mode) (.bool true) (.bool false) (.int .i64 lat) (.int .i64 lon) (.int .i64 iso)) ((st.box 0 rfl).c6) fun hHeld => ?_
          replace st := st.name; obtain ⟨V1, hV, st⟩ := st; rw [hV] at hHeld ⊢; clear hV
          refine tq 0 ?_; try simp only [Act.put, l1, l2, l3, l4, l5, l6]
          refine tq 1 ?_; try simp only [Act.put, l1, l2, l3, l4, l5, l6]
          refine tq 2 ?_; try simp only [Act.put, l1, l2, l3, l4, l5, l6]
          refine tq 3 ?_; try simp only [Act.put, l1, l2, l3, l4, l5, l6]
          refine rd 4 fun K hK => ?_
          have fc0 := (st.box 0 rfl).f6
          go_simp
          refine callQ (TF.out _) ?_
          try go_wp2_with fail
          clear hHeld fc0; refine hK.out _ _ ((st.box 0 rfl).c6) fun hHeld => ?_; clear hK K
          try simp only [Act.put, l1, l2, l3, l4, l5, l6]
          refine tq 5 ?_; try simp only [Act.put, l1, l2, l3, l4, l5, l6]
          refine tq 6 ?_; try simp only [Act.put, l1, l2, l3, l4, l5, l6]
          refine tq 7 ?_; try simp only [Act.put, l1, l2, l3, l4, l5, l6]
          refine tq 8 ?_; try simp only [Act.put, l1, l2, l3, l4, l5, l6]
          refine tq 9 ?_; try simp only [Act.put, l1, l2, l3, l4, l5, l6]
          refine tq 10 ?_; try simp only [Act.put, l1, l2, l3, l4, l5, l6]
          refine tq 11 ?_; try simp only [Act.put, l1, l2, l3, l4, l5, l6]
          refine rd 12 fun K hK => ?_
          have fc0 := (st.box 0 rfl).f6
          go_simp
          refine callQ (TH.out _) ?_
          try go_wp2_with fail
          clear hHeld fc0; refine hK.out _ _ ((st.box 0 rfl).c6) fun hHeld => ?_; clear hK K
          try simp only [Act.put, l1, l2, l3, l4, l5, l6]
          refine tq 13 ?_; try simp only [Act.put, l1, l2, l3, l4, l5, l6]
          refine tq 14 ?_; try simp only [Act.put, l1, l2, l3, l4, l5, l6]
          refine tq 15 ?_; try simp only [Act.put, l1, l2, l3, l4, l5, l6]
          refine tq 16 ?_; try simp only [Act.put, l1, l2, l3, l4, l5, l6]
          refine tq 17 ?_; try simp only [Act.put, l1, l2, l3, l4, l5, l6]
          refine tq 19 ?_; try simp only [Act.put, l1, l2, l3, l4, l5, l6]
          refine tq 20 ?_; try simp only [Act.put, l1, l2, l3, l4, l5, l6]
          refine rd 18 fun K hK => ?_
          have fc0 := (st.box 0 rfl).f6
          go_simp
          refine callB st (TS.out _) ?_; clear st fc0; intro V2 st
          have fc0 := (st.box 0 rfl).f6
          try go_wp2_with fail
          clear hHeld fc0; refine hK.out _ _ ((st.box 0 rfl).c6) fun hHeld => ?_; clear hK K
          try simp only [Act.put, l1, l2, l3, l4, l5, l6]
          refine rd 21 fun K hK => ?_
          have fc0 := (st.box 0 rfl).f6
          go_simp
          refine callQ (TN.out _) ?_
          try go_wp2_with fail
          clear hHeld fc0; refine hK.out _ _ ((st.box 0 rfl).c6) fun hHeld => ?_; clear hK K
          try simp only [Act.put, l1, l2, l3, l4, l5, l6]
          refine tq 22 ?_; try simp only [Act.put, l1, l2, l3, l4, l5, l6]
          refine tq 23 ?_; try simp only [Act.put, l1, l2, l3, l4, l5, l6]
          refine tq 24 ?_; try simp only [Act.put, l1, l2, l3, l4, l5, l6]
          refine wpAnyH_done (by kernel_rfl) ?_ _; clear hHeld
          have fc0 := (st.box 0 rfl).f6
          go_wp2; go_ret; exact ⟨rfl, st.lo⟩

end Go.Proofs.Ytdfacpppmfoiiaa

/- The program's own functions of layer 14: contracts only. -/
import Derived.Test.YtdfacpppmfoiiaaRows
import Derived.Test.YtdfacpppmfoiiaaStatePlain
import Derived.Test.YtdfacpppmfoiiaaFieldOwn
import Derived.Test.YtdfacpppmfoiiaaLaid
import Derived.Test.YtdfacpppmfoiiaaInts
import Derived.Test.YtdfacpppmfoiiaaBs
import Derived.WalkKit
import Derived.ProofKit
import Derived.OpenShut
import Derived.ChangeMaps5
import Derived.Carry
import Derived.OwnWalk
import Derived.Lib.Hide
import Derived.Deep.RegionHeld3
import Derived.BigQuiet
import Derived.Deep.QuietTactic
import Derived.Deep.CutRange
import Derived.WalkLawsBesides
import Derived.WalkSpells
import Derived.IntWalk
namespace Go.Proofs.Ytdfacpppmfoiiaa
open Go.RowKit
set_option linter.unusedVariables false
set_option linter.unusedSimpArgs false

theorem own_not_legal {s : St} (h : ¬ Legal s) : legalB s = false := by
  cases k : legalB s with
  | false => rfl
  | true => exact absurd ((legal_iff s).1 k) h

set_option maxRecDepth 100000 in
set_option maxHeartbeats 8000000 in
theorem own14Default (W : World) : Gives Try.prog 22 #[] W (.agg #[.int .i64 0, .bool false, .bool false, .int .i64 0, .int .i64 0, .int .i64 0]) := by
  have st := Bs.in1 W 23 [.int .i64 0, .bool false, .bool false, .int .i64 0, .int .i64 0, .int .i64 0]
  go_enter Try.func22, Try.ntmps22
  go_wp2
  have fc0 := (st.box 0 rfl).f6
  exact bodyPost_ret (v := .agg #[.int .i64 0, .bool false, .bool false, .int .i64 0, .int .i64 0, .int .i64 0]) (by simp [results, Try.results22, go_sem, fc0]) rfl ⟨rfl, st.lo⟩

set_option maxRecDepth 100000 in
set_option maxHeartbeats 8000000 in
theorem own14unplaced (mode : Int) (armed home : Bool) (lat lon iso : Int) (W : World) : Gives Try.prog 31 #[.agg #[.int .i64 mode, .bool armed, .bool home, .int .i64 lat, .int .i64 lon, .int .i64 iso]] W (.agg #[.int .i64 mode, .bool armed, .bool home, .int .i64 0, .int .i64 0, .int .i64 iso]) := by
  have st := Bs.in2 W 23 [.int .i64 mode, .bool armed, .bool home, .int .i64 lat, .int .i64 lon, .int .i64 iso] 23 [.int .i64 0, .bool false, .bool false, .int .i64 0, .int .i64 0, .int .i64 0]
  go_enter Try.func31, Try.ntmps31
  have fc0 := (st.box 1 rfl).f6; have fc1 := (st.box 0 rfl).f6
  go_upto_region 2 with fail
  clear fc0 fc1
  replace st := Bs.in2 W 23 [.int .i64 mode, .bool armed, .bool home, .int .i64 0, .int .i64 0, .int .i64 iso] 23 [.int .i64 0, .bool false, .bool false, .int .i64 0, .int .i64 0, .int .i64 0]
  have fc0 := (st.box 1 rfl).f6; have fc1 := (st.box 0 rfl).f6
  go_wp2
  clear fc0 fc1
  replace st := Bs.in2 W 23 [.int .i64 mode, .bool armed, .bool home, .int .i64 0, .int .i64 0, .int .i64 iso] 23 [.int .i64 mode, .bool armed, .bool home, .int .i64 0, .int .i64 0, .int .i64 iso]
  have fc0 := (st.box 1 rfl).f6; have fc1 := (st.box 0 rfl).f6
  exact bodyPost_ret (v := .agg #[.int .i64 mode, .bool armed, .bool home, .int .i64 0, .int .i64 0, .int .i64 iso]) (by simp [results, Try.results31, go_sem, fc0, fc1]) rfl ⟨rfl, st.lo⟩

set_option maxRecDepth 100000 in
set_option maxHeartbeats 8000000 in
theorem own14Legal (s : St) (W : World) (hs : s.ok) : Gives Try.prog 17 #[.agg #[.int .i64 s.mode, .bool s.armed, .bool s.home, .int .i64 s.lat, .int .i64 s.lon, .int .i64 s.iso]] W (.bool (legalB s)) := by
  have HL := @own_not_legal s
  have HY := (legal_iff s).2
  obtain ⟨mode, armed, home, lat, lon, iso⟩ := s
  dsimp only at *
  by_cases c0 : 0 ≤ mode
  · have d0 : decide (0 ≤ mode) = true := decide_eq_true c0
    by_cases c1 : mode ≤ 5
    · have d1 : decide (mode ≤ 5) = true := decide_eq_true c1
      by_cases c2 : 0 ≤ iso
      · have d2 : decide (0 ≤ iso) = true := decide_eq_true c2
        by_cases c3 : iso ≤ 15
        · have d3 : decide (iso ≤ 15) = true := decide_eq_true c3
          by_cases c4 : -737280 ≤ lat
          · have d4 : decide (-737280 ≤ lat) = true := decide_eq_true c4
            by_cases c5 : lat ≤ 737280
            · have d5 : decide (lat ≤ 737280) = true := decide_eq_true c5
              by_cases c6 : -1474560 ≤ lon
              · have d6 : decide (-1474560 ≤ lon) = true := decide_eq_true c6
                by_cases c7 : lon ≤ 1474560
                · have d7 : decide (lon ≤ 1474560) = true := decide_eq_true c7
                  cases home with
                  | true =>
                    rw [HY ⟨⟨c0, c1⟩, ⟨c2, c3⟩, ⟨c4, c5⟩, ⟨c6, c7⟩, Or.inl rfl⟩]
                    clear HL HY hs c0 c1 c2 c3 c4 c5 c6 c7
                    have st := Bs.in1 W 23 [.int .i64 mode, .bool armed, .bool true, .int .i64 lat, .int .i64 lon, .int .i64 iso]
                    go_enter Try.func17, Try.ntmps17
                    have fc0 := (st.box 0 rfl).f6
                    go_wp2_with fail
                    go_quiet (fail)
                    replace st := st.drewN nq
                    clear fc0
                    go_wp2; go_ret; exact ⟨rfl, st.lo⟩
                  | false =>
                    by_cases z1 : lat = 0
                    · subst z1
                      by_cases z2 : lon = 0
                      · subst z2
                        rw [HY ⟨⟨c0, c1⟩, ⟨c2, c3⟩, ⟨c4, c5⟩, ⟨c6, c7⟩, Or.inr ⟨rfl, rfl⟩⟩]
                        have TU := Lib.hid (fun (V : World) => own14unplaced mode armed false (0) (0) iso V)
                        clear HL HY hs c0 c1 c2 c3 c4 c5 c6 c7
                        have st := Bs.in1 W 23 [.int .i64 mode, .bool armed, .bool false, .int .i64 0, .int .i64 0, .int .i64 iso]
                        go_enter Try.func17, Try.ntmps17
                        have fc0 := (st.box 0 rfl).f6
                        go_wp2_with fail
                        clear fc0
                        replace st := st.drew
                        refine rh (fun w => C6 w (W.heap.size) (.int .i64 mode) (.bool armed) (.bool false) (.int .i64 0) (.int .i64 0) (.int .i64 iso)) ((st.box 0 rfl).c6) fun hHeld => ?_
                        replace st := st.name; obtain ⟨V1, hV, st⟩ := st; rw [hV] at hHeld ⊢; clear hV
                        refine tq 0 ?_; try simp only [Act.put, l1, l2, l3, l4, l5, l6]
                        refine tq 1 ?_; try simp only [Act.put, l1, l2, l3, l4, l5, l6]
                        refine tq 2 ?_; try simp only [Act.put, l1, l2, l3, l4, l5, l6]
                        refine tq 3 ?_; try simp only [Act.put, l1, l2, l3, l4, l5, l6]
                        refine tq 4 ?_; try simp only [Act.put, l1, l2, l3, l4, l5, l6]
                        refine tq 5 ?_; try simp only [Act.put, l1, l2, l3, l4, l5, l6]
                        refine tq 6 ?_; try simp only [Act.put, l1, l2, l3, l4, l5, l6]
                        refine tq 7 ?_; try simp only [Act.put, l1, l2, l3, l4, l5, l6]
                        refine tq 8 ?_; try simp only [Act.put, l1, l2, l3, l4, l5, l6]
                        refine tq 9 ?_; try simp only [Act.put, l1, l2, l3, l4, l5, l6]
                        refine tq 10 ?_; try simp only [Act.put, l1, l2, l3, l4, l5, l6]
                        refine tq 11 ?_; try simp only [Act.put, l1, l2, l3, l4, l5, l6]
                        refine tq 12 ?_; try simp only [Act.put, l1, l2, l3, l4, l5, l6]
                        refine tq 13 ?_; try simp only [Act.put, l1, l2, l3, l4, l5, l6]
                        refine tq 14 ?_; try simp only [Act.put, l1, l2, l3, l4, l5, l6]
                        refine tq 15 ?_; try simp only [Act.put, l1, l2, l3, l4, l5, l6]
                        refine tq 16 ?_; try simp only [Act.put, l1, l2, l3, l4, l5, l6]
                        refine tq 17 ?_; try simp only [Act.put, l1, l2, l3, l4, l5, l6]
                        refine tq 18 ?_; try simp only [Act.put, l1, l2, l3, l4, l5, l6]
                        refine tq 19 ?_; try simp only [Act.put, l1, l2, l3, l4, l5, l6]
                        refine tq 20 ?_; try simp only [Act.put, l1, l2, l3, l4, l5, l6]
                        refine tq 21 ?_; try simp only [Act.put, l1, l2, l3, l4, l5, l6]
                        refine tq 22 ?_; try simp only [Act.put, l1, l2, l3, l4, l5, l6]
                        refine tq 23 ?_; try simp only [Act.put, l1, l2, l3, l4, l5, l6]
                        refine tq 24 ?_; try simp only [Act.put, l1, l2, l3, l4, l5, l6]
                        refine tq 25 ?_; try simp only [Act.put, l1, l2, l3, l4, l5, l6]
                        refine tq 26 ?_; try simp only [Act.put, l1, l2, l3, l4, l5, l6]
                        refine tq 27 ?_; try simp only [Act.put, l1, l2, l3, l4, l5, l6]
                        refine tq 28 ?_; try simp only [Act.put, l1, l2, l3, l4, l5, l6]
                        refine tq 29 ?_; try simp only [Act.put, l1, l2, l3, l4, l5, l6]
                        refine tq 30 ?_; try simp only [Act.put, l1, l2, l3, l4, l5, l6]
                        refine tq 31 ?_; try simp only [Act.put, l1, l2, l3, l4, l5, l6]
                        refine tq 32 ?_; try simp only [Act.put, l1, l2, l3, l4, l5, l6]
                        refine tq 33 ?_; try simp only [Act.put, l1, l2, l3, l4, l5, l6]
                        refine tq 34 ?_; try simp only [Act.put, l1, l2, l3, l4, l5, l6]
                        refine tq 35 ?_; try simp only [Act.put, l1, l2, l3, l4, l5, l6]
                        refine tq 36 ?_; try simp only [Act.put, l1, l2, l3, l4, l5, l6]
                        refine tq 37 ?_; try simp only [Act.put, l1, l2, l3, l4, l5, l6]
                        refine tq 38 ?_; try simp only [Act.put, l1, l2, l3, l4, l5, l6]
                        refine tq 39 ?_; try simp only [Act.put, l1, l2, l3, l4, l5, l6]
                        refine tq 40 ?_; try simp only [Act.put, l1, l2, l3, l4, l5, l6]
                        refine tq 41 ?_; try simp only [Act.put, l1, l2, l3, l4, l5, l6]
                        refine tq 42 ?_; try simp only [Act.put, l1, l2, l3, l4, l5, l6]
                        refine tq 43 ?_; try simp only [Act.put, l1, l2, l3, l4, l5, l6]
                        refine rd 44 fun K hK => ?_
                        have fc0 := (st.box 0 rfl).f6
                        go_simp
                        refine callB st (TU.out _) ?_; clear st fc0; intro V2 st
                        have fc0 := (st.box 0 rfl).f6
                        try go_wp2_with fail
                        clear hHeld fc0; refine hK.out _ _ ((st.box 0 rfl).c6) fun hHeld => ?_; clear hK K
                        try simp only [Act.put, l1, l2, l3, l4, l5, l6]
                        refine tq 45 ?_; try simp only [Act.put, l1, l2, l3, l4, l5, l6]
                        refine tq 46 ?_; try simp only [Act.put, l1, l2, l3, l4, l5, l6]
                        refine tq 47 ?_; try simp only [Act.put, l1, l2, l3, l4, l5, l6]
                        refine tq 48 ?_; try simp only [Act.put, l1, l2, l3, l4, l5, l6]
                        refine wpAnyH_done (by kernel_rfl) ?_ _; clear hHeld
                        have fc0 := (st.box 0 rfl).f6
                        go_wp2; go_ret; exact ⟨rfl, st.lo⟩
                      · skip
                        rw [HL (fun k => k.h.elim (fun l => by cases l) (fun l => z2 l.2))]
                        have TU := Lib.hid (fun (V : World) => own14unplaced mode armed false (0) (lon) iso V)
                        clear HL HY hs c0 c1 c2 c3 c4 c5 c6 c7
                        have st := Bs.in1 W 23 [.int .i64 mode, .bool armed, .bool false, .int .i64 0, .int .i64 lon, .int .i64 iso]
                        go_enter Try.func17, Try.ntmps17
                        have fc0 := (st.box 0 rfl).f6
                        go_wp2_with fail
                        clear fc0
                        replace st := st.drew
                        refine rh (fun w => C6 w (W.heap.size) (.int .i64 mode) (.bool armed) (.bool false) (.int .i64 0) (.int .i64 lon) (.int .i64 iso)) ((st.box 0 rfl).c6) fun hHeld => ?_
                        replace st := st.name; obtain ⟨V1, hV, st⟩ := st; rw [hV] at hHeld ⊢; clear hV
                        refine tq 0 ?_; try simp only [Act.put, l1, l2, l3, l4, l5, l6]
                        refine tq 1 ?_; try simp only [Act.put, l1, l2, l3, l4, l5, l6]
                        refine tq 2 ?_; try simp only [Act.put, l1, l2, l3, l4, l5, l6]
                        refine tq 3 ?_; try simp only [Act.put, l1, l2, l3, l4, l5, l6]
                        refine tq 4 ?_; try simp only [Act.put, l1, l2, l3, l4, l5, l6]
                        refine tq 5 ?_; try simp only [Act.put, l1, l2, l3, l4, l5, l6]
                        refine tq 6 ?_; try simp only [Act.put, l1, l2, l3, l4, l5, l6]
                        refine tq 7 ?_; try simp only [Act.put, l1, l2, l3, l4, l5, l6]
                        refine tq 8 ?_; try simp only [Act.put, l1, l2, l3, l4, l5, l6]
                        refine tq 9 ?_; try simp only [Act.put, l1, l2, l3, l4, l5, l6]
                        refine tq 10 ?_; try simp only [Act.put, l1, l2, l3, l4, l5, l6]
                        refine tq 11 ?_; try simp only [Act.put, l1, l2, l3, l4, l5, l6]
                        refine tq 12 ?_; try simp only [Act.put, l1, l2, l3, l4, l5, l6]
                        refine tq 13 ?_; try simp only [Act.put, l1, l2, l3, l4, l5, l6]
                        refine tq 14 ?_; try simp only [Act.put, l1, l2, l3, l4, l5, l6]
                        refine tq 15 ?_; try simp only [Act.put, l1, l2, l3, l4, l5, l6]
                        refine tq 16 ?_; try simp only [Act.put, l1, l2, l3, l4, l5, l6]
                        refine tq 17 ?_; try simp only [Act.put, l1, l2, l3, l4, l5, l6]
                        refine tq 18 ?_; try simp only [Act.put, l1, l2, l3, l4, l5, l6]
                        refine tq 19 ?_; try simp only [Act.put, l1, l2, l3, l4, l5, l6]
                        refine tq 20 ?_; try simp only [Act.put, l1, l2, l3, l4, l5, l6]
                        refine tq 21 ?_; try simp only [Act.put, l1, l2, l3, l4, l5, l6]
                        refine tq 22 ?_; try simp only [Act.put, l1, l2, l3, l4, l5, l6]
                        refine tq 23 ?_; try simp only [Act.put, l1, l2, l3, l4, l5, l6]
                        refine tq 24 ?_; try simp only [Act.put, l1, l2, l3, l4, l5, l6]
                        refine tq 25 ?_; try simp only [Act.put, l1, l2, l3, l4, l5, l6]
                        refine tq 26 ?_; try simp only [Act.put, l1, l2, l3, l4, l5, l6]
                        refine tq 27 ?_; try simp only [Act.put, l1, l2, l3, l4, l5, l6]
                        refine tq 28 ?_; try simp only [Act.put, l1, l2, l3, l4, l5, l6]
                        refine tq 29 ?_; try simp only [Act.put, l1, l2, l3, l4, l5, l6]
                        refine tq 30 ?_; try simp only [Act.put, l1, l2, l3, l4, l5, l6]
                        refine tq 31 ?_; try simp only [Act.put, l1, l2, l3, l4, l5, l6]
                        refine tq 32 ?_; try simp only [Act.put, l1, l2, l3, l4, l5, l6]
                        refine tq 33 ?_; try simp only [Act.put, l1, l2, l3, l4, l5, l6]
                        refine tq 34 ?_; try simp only [Act.put, l1, l2, l3, l4, l5, l6]
                        refine tq 35 ?_; try simp only [Act.put, l1, l2, l3, l4, l5, l6]
                        refine tq 36 ?_; try simp only [Act.put, l1, l2, l3, l4, l5, l6]
                        refine tq 37 ?_; try simp only [Act.put, l1, l2, l3, l4, l5, l6]
                        refine tq 38 ?_; try simp only [Act.put, l1, l2, l3, l4, l5, l6]
                        refine tq 39 ?_; try simp only [Act.put, l1, l2, l3, l4, l5, l6]
                        refine tq 40 ?_; try simp only [Act.put, l1, l2, l3, l4, l5, l6]
                        refine tq 41 ?_; try simp only [Act.put, l1, l2, l3, l4, l5, l6]
                        refine tq 42 ?_; try simp only [Act.put, l1, l2, l3, l4, l5, l6]
                        refine tq 43 ?_; try simp only [Act.put, l1, l2, l3, l4, l5, l6]
                        refine rd 44 fun K hK => ?_
                        have fc0 := (st.box 0 rfl).f6
                        go_simp
                        refine callB st (TU.out _) ?_; clear st fc0; intro V2 st
                        have fc0 := (st.box 0 rfl).f6
                        try go_wp2_with fail
                        clear hHeld fc0; refine hK.out _ _ ((st.box 0 rfl).c6) fun hHeld => ?_; clear hK K
                        try simp only [Act.put, l1, l2, l3, l4, l5, l6]
                        refine tq 45 ?_; try simp only [Act.put, l1, l2, l3, l4, l5, l6]
                        refine tq 46 ?_; try simp only [Act.put, l1, l2, l3, l4, l5, l6]
                        refine tq 47 ?_; try simp only [Act.put, l1, l2, l3, l4, l5, l6]
                        refine tq 48 ?_; try simp only [Act.put, l1, l2, l3, l4, l5, l6]
                        refine wpAnyH_done (by kernel_rfl) ?_ _; clear hHeld
                        have fc0 := (st.box 0 rfl).f6
                        go_wp2; go_ret; exact ⟨rfl, st.lo⟩
                    · skip
                      rw [HL (fun k => k.h.elim (fun l => by cases l) (fun l => z1 l.1))]
                      have TU := Lib.hid (fun (V : World) => own14unplaced mode armed false (lat) (lon) iso V)
                      clear HL HY hs c0 c1 c2 c3 c4 c5 c6 c7
                      have st := Bs.in1 W 23 [.int .i64 mode, .bool armed, .bool false, .int .i64 lat, .int .i64 lon, .int .i64 iso]
                      go_enter Try.func17, Try.ntmps17
                      have fc0 := (st.box 0 rfl).f6
                      go_wp2_with fail
                      clear fc0
                      replace st := st.drew
                      refine rh (fun w => C6 w (W.heap.size) (.int .i64 mode) (.bool armed) (.bool false) (.int .i64 lat) (.int .i64 lon) (.int .i64 iso)) ((st.box 0 rfl).c6) fun hHeld => ?_
                      replace st := st.name; obtain ⟨V1, hV, st⟩ := st; rw [hV] at hHeld ⊢; clear hV
                      refine tq 0 ?_; try simp only [Act.put, l1, l2, l3, l4, l5, l6]
                      refine tq 1 ?_; try simp only [Act.put, l1, l2, l3, l4, l5, l6]
                      refine tq 2 ?_; try simp only [Act.put, l1, l2, l3, l4, l5, l6]
                      refine tq 3 ?_; try simp only [Act.put, l1, l2, l3, l4, l5, l6]
                      refine tq 4 ?_; try simp only [Act.put, l1, l2, l3, l4, l5, l6]
                      refine tq 5 ?_; try simp only [Act.put, l1, l2, l3, l4, l5, l6]
                      refine tq 6 ?_; try simp only [Act.put, l1, l2, l3, l4, l5, l6]
                      refine tq 7 ?_; try simp only [Act.put, l1, l2, l3, l4, l5, l6]
                      refine tq 8 ?_; try simp only [Act.put, l1, l2, l3, l4, l5, l6]
                      refine tq 9 ?_; try simp only [Act.put, l1, l2, l3, l4, l5, l6]
                      refine tq 10 ?_; try simp only [Act.put, l1, l2, l3, l4, l5, l6]
                      refine tq 11 ?_; try simp only [Act.put, l1, l2, l3, l4, l5, l6]
                      refine tq 12 ?_; try simp only [Act.put, l1, l2, l3, l4, l5, l6]
                      refine tq 13 ?_; try simp only [Act.put, l1, l2, l3, l4, l5, l6]
                      refine tq 14 ?_; try simp only [Act.put, l1, l2, l3, l4, l5, l6]
                      refine tq 15 ?_; try simp only [Act.put, l1, l2, l3, l4, l5, l6]
                      refine tq 16 ?_; try simp only [Act.put, l1, l2, l3, l4, l5, l6]
                      refine tq 17 ?_; try simp only [Act.put, l1, l2, l3, l4, l5, l6]
                      refine tq 18 ?_; try simp only [Act.put, l1, l2, l3, l4, l5, l6]
                      refine tq 19 ?_; try simp only [Act.put, l1, l2, l3, l4, l5, l6]
                      refine tq 20 ?_; try simp only [Act.put, l1, l2, l3, l4, l5, l6]
                      refine tq 21 ?_; try simp only [Act.put, l1, l2, l3, l4, l5, l6]
                      refine tq 22 ?_; try simp only [Act.put, l1, l2, l3, l4, l5, l6]
                      refine tq 23 ?_; try simp only [Act.put, l1, l2, l3, l4, l5, l6]
                      refine tq 24 ?_; try simp only [Act.put, l1, l2, l3, l4, l5, l6]
                      refine tq 25 ?_; try simp only [Act.put, l1, l2, l3, l4, l5, l6]
                      refine tq 26 ?_; try simp only [Act.put, l1, l2, l3, l4, l5, l6]
                      refine tq 27 ?_; try simp only [Act.put, l1, l2, l3, l4, l5, l6]
                      refine tq 28 ?_; try simp only [Act.put, l1, l2, l3, l4, l5, l6]
                      refine tq 29 ?_; try simp only [Act.put, l1, l2, l3, l4, l5, l6]
                      refine tq 30 ?_; try simp only [Act.put, l1, l2, l3, l4, l5, l6]
                      refine tq 31 ?_; try simp only [Act.put, l1, l2, l3, l4, l5, l6]
                      refine tq 32 ?_; try simp only [Act.put, l1, l2, l3, l4, l5, l6]
                      refine tq 33 ?_; try simp only [Act.put, l1, l2, l3, l4, l5, l6]
                      refine tq 34 ?_; try simp only [Act.put, l1, l2, l3, l4, l5, l6]
                      refine tq 35 ?_; try simp only [Act.put, l1, l2, l3, l4, l5, l6]
                      refine tq 36 ?_; try simp only [Act.put, l1, l2, l3, l4, l5, l6]
                      refine tq 37 ?_; try simp only [Act.put, l1, l2, l3, l4, l5, l6]
                      refine tq 38 ?_; try simp only [Act.put, l1, l2, l3, l4, l5, l6]
                      refine tq 39 ?_; try simp only [Act.put, l1, l2, l3, l4, l5, l6]
                      refine tq 40 ?_; try simp only [Act.put, l1, l2, l3, l4, l5, l6]
                      refine tq 41 ?_; try simp only [Act.put, l1, l2, l3, l4, l5, l6]
                      refine tq 42 ?_; try simp only [Act.put, l1, l2, l3, l4, l5, l6]
                      refine tq 43 ?_; try simp only [Act.put, l1, l2, l3, l4, l5, l6]
                      refine rd 44 fun K hK => ?_
                      have fc0 := (st.box 0 rfl).f6
                      go_simp
                      refine callB st (TU.out _) ?_; clear st fc0; intro V2 st
                      have fc0 := (st.box 0 rfl).f6
                      try go_wp2_with fail
                      clear hHeld fc0; refine hK.out _ _ ((st.box 0 rfl).c6) fun hHeld => ?_; clear hK K
                      try simp only [Act.put, l1, l2, l3, l4, l5, l6]
                      refine tq 45 ?_; try simp only [Act.put, l1, l2, l3, l4, l5, l6]
                      refine tq 46 ?_; try simp only [Act.put, l1, l2, l3, l4, l5, l6]
                      refine tq 47 ?_; try simp only [Act.put, l1, l2, l3, l4, l5, l6]
                      refine tq 48 ?_; try simp only [Act.put, l1, l2, l3, l4, l5, l6]
                      refine wpAnyH_done (by kernel_rfl) ?_ _; clear hHeld
                      have fc0 := (st.box 0 rfl).f6
                      go_wp2; go_ret; exact ⟨rfl, st.lo⟩
                · rw [HL (fun k => by have h := k.o; dsimp only at h; omega)]
                  have d7 : decide (lon ≤ 1474560) = false := decide_eq_false c7
                  clear HL HY hs c0 c1 c2 c3 c4 c5 c6 c7
                  have st := Bs.in1 W 23 [.int .i64 mode, .bool armed, .bool home, .int .i64 lat, .int .i64 lon, .int .i64 iso]
                  go_enter Try.func17, Try.ntmps17
                  have fc0 := (st.box 0 rfl).f6
                  go_wp2_with fail
                  go_quiet (fail)
                  replace st := st.drewN nq
                  clear fc0
                  go_wp2; go_ret; exact ⟨rfl, st.lo⟩
              · rw [HL (fun k => by have h := k.o; dsimp only at h; omega)]
                have d6 : decide (-1474560 ≤ lon) = false := decide_eq_false c6
                clear HL HY hs c0 c1 c2 c3 c4 c5 c6
                have st := Bs.in1 W 23 [.int .i64 mode, .bool armed, .bool home, .int .i64 lat, .int .i64 lon, .int .i64 iso]
                go_enter Try.func17, Try.ntmps17
                have fc0 := (st.box 0 rfl).f6
                go_wp2_with fail
                go_quiet (fail)
                replace st := st.drewN nq
                clear fc0
                go_wp2; go_ret; exact ⟨rfl, st.lo⟩
            · rw [HL (fun k => by have h := k.a; dsimp only at h; omega)]
              have d5 : decide (lat ≤ 737280) = false := decide_eq_false c5
              clear HL HY hs c0 c1 c2 c3 c4 c5
              have st := Bs.in1 W 23 [.int .i64 mode, .bool armed, .bool home, .int .i64 lat, .int .i64 lon, .int .i64 iso]
              go_enter Try.func17, Try.ntmps17
              have fc0 := (st.box 0 rfl).f6
              go_wp2_with fail
              go_quiet (fail)
              replace st := st.drewN nq
              clear fc0
              go_wp2; go_ret; exact ⟨rfl, st.lo⟩
          · rw [HL (fun k => by have h := k.a; dsimp only at h; omega)]
            have d4 : decide (-737280 ≤ lat) = false := decide_eq_false c4
            clear HL HY hs c0 c1 c2 c3 c4
            have st := Bs.in1 W 23 [.int .i64 mode, .bool armed, .bool home, .int .i64 lat, .int .i64 lon, .int .i64 iso]
            go_enter Try.func17, Try.ntmps17
            have fc0 := (st.box 0 rfl).f6
            go_wp2_with fail
            go_quiet (fail)
            replace st := st.drewN nq
            clear fc0
            go_wp2; go_ret; exact ⟨rfl, st.lo⟩
        · rw [HL (fun k => by have h := k.i; dsimp only at h; omega)]
          have d3 : decide (iso ≤ 15) = false := decide_eq_false c3
          clear HL HY hs c0 c1 c2 c3
          have st := Bs.in1 W 23 [.int .i64 mode, .bool armed, .bool home, .int .i64 lat, .int .i64 lon, .int .i64 iso]
          go_enter Try.func17, Try.ntmps17
          have fc0 := (st.box 0 rfl).f6
          go_wp2_with fail
          go_quiet (fail)
          replace st := st.drewN nq
          clear fc0
          go_wp2; go_ret; exact ⟨rfl, st.lo⟩
      · rw [HL (fun k => by have h := k.i; dsimp only at h; omega)]
        have d2 : decide (0 ≤ iso) = false := decide_eq_false c2
        clear HL HY hs c0 c1 c2
        have st := Bs.in1 W 23 [.int .i64 mode, .bool armed, .bool home, .int .i64 lat, .int .i64 lon, .int .i64 iso]
        go_enter Try.func17, Try.ntmps17
        have fc0 := (st.box 0 rfl).f6
        go_wp2_with fail
        go_quiet (fail)
        replace st := st.drewN nq
        clear fc0
        go_wp2; go_ret; exact ⟨rfl, st.lo⟩
    · rw [HL (fun k => by have h := k.m; dsimp only at h; omega)]
      have d1 : decide (mode ≤ 5) = false := decide_eq_false c1
      clear HL HY hs c0 c1
      have st := Bs.in1 W 23 [.int .i64 mode, .bool armed, .bool home, .int .i64 lat, .int .i64 lon, .int .i64 iso]
      go_enter Try.func17, Try.ntmps17
      have fc0 := (st.box 0 rfl).f6
      go_wp2_with fail
      go_quiet (fail)
      replace st := st.drewN nq
      clear fc0
      go_wp2; go_ret; exact ⟨rfl, st.lo⟩
  · rw [HL (fun k => by have h := k.m; dsimp only at h; omega)]
    have d0 : decide (0 ≤ mode) = false := decide_eq_false c0
    clear HL HY hs c0
    have st := Bs.in1 W 23 [.int .i64 mode, .bool armed, .bool home, .int .i64 lat, .int .i64 lon, .int .i64 iso]
    go_enter Try.func17, Try.ntmps17
    have fc0 := (st.box 0 rfl).f6
    go_wp2_with fail
    go_quiet (fail)
    replace st := st.drewN nq
    clear fc0
    go_wp2; go_ret; exact ⟨rfl, st.lo⟩

end Go.Proofs.Ytdfacpppmfoiiaa

/- The document's own answers of layer 16 (Delta): contracts only. -/
import Derived.Test.YtdfacpppmfoiiaaCmdGo
namespace Go.Proofs.Ytdfacpppmfoiiaa
open Go.RowKit
set_option linter.unusedVariables false
set_option linter.unusedSimpArgs false

set_option maxRecDepth 100000 in
set_option maxHeartbeats 8000000 in
theorem ref16Delta (s : St) (c : Cm) (W : World) (hl : Legal s) : Gives Try.prog 14 #[.agg #[.int .i64 s.mode, .bool s.armed, .bool s.home, .int .i64 s.lat, .int .i64 s.lon, .int .i64 s.iso], .agg #[.int .i64 c.kind, .int .i64 c.n, .float .f64 c.lat, .float .f64 c.lon]] W (.tuple #[.agg #[.int .i64 (deltaS s c).mode, .bool (deltaS s c).armed, .bool (deltaS s c).home, .int .i64 (deltaS s c).lat, .int .i64 (deltaS s c).lon, .int .i64 (deltaS s c).iso], .int .i64 (deltaE s c)]) := by
  have TS := Lib.hid (fun (V : World) => ref14Sound s V)
  have TN := Lib.hid (fun (V : World) => ref15Needs s.mode V)
  by_cases k1 : c.kind = 1
  · obtain ⟨e1, e2⟩ := delta_go (s := s) k1
    rw [e1, e2]
    clear e1 e2
    have TG := Lib.hid (fun (V : World) => ref16goes s c.n V)
    generalize goS s c.n = u at *
    generalize goE s c.n = E at *
    clear hl TS TN
    obtain ⟨mode, armed, home, lat, lon, iso⟩ := s
    obtain ⟨kd, n, cla, clo⟩ := c
    dsimp only at *
    subst k1
    obtain ⟨um, ua, uh, ul, uo, ui⟩ := u
    dsimp only at *
    have st := Bs.in3 W 28 [.int .i64 mode, .bool armed, .bool home, .int .i64 lat, .int .i64 lon, .int .i64 iso] 36 [.int .i64 1, .int .i64 n, .float .f64 cla, .float .f64 clo] 28 [.int .i64 0, .bool false, .bool false, .int .i64 0, .int .i64 0, .int .i64 0]
    go_enter Try.func14, Try.ntmps14
    have fc0 := (st.box 2 rfl).f6; have fc1 := (st.box 1 rfl).f4; have fc2 := (st.box 0 rfl).f6
    go_wp2_with fail; refine callB st (TG.out _) ?_; clear st fc0 fc1 fc2; intro V1 st
    have fc0 := (st.box 2 rfl).f6; have fc1 := (st.box 1 rfl).f4; have fc2 := (st.box 0 rfl).f6
    go_wp2
    clear fc0 fc1 fc2
    replace st := st.put6 0 (.int .i64 um) (.bool ua) (.bool uh) (.int .i64 ul) (.int .i64 uo) (.int .i64 ui) rfl; obtain ⟨V2, hV, st⟩ := st; rw [hV]; clear hV
    have fc0 := (st.box 2 rfl).f6; have fc1 := (st.box 1 rfl).f4; have fc2 := (st.box 0 rfl).f6
    exact bodyPost_ret (v := .tuple #[.agg #[.int .i64 um, .bool ua, .bool uh, .int .i64 ul, .int .i64 uo, .int .i64 ui], .int .i64 E]) (by simp [results, Try.results14, go_sem, fc0, fc1, fc2]) rfl ⟨rfl, st.lo⟩
  by_cases k4 : c.kind = 4
  · obtain ⟨e1, e2⟩ := delta_home (s := s) k4
    rw [e1, e2]
    clear e1 e2
    have TG := Lib.hid (fun (V : World) => ref16home s c V)
    generalize homeS s c = u at *
    generalize homeE c = E at *
    clear hl TS TN
    obtain ⟨mode, armed, home, lat, lon, iso⟩ := s
    obtain ⟨kd, n, cla, clo⟩ := c
    dsimp only at *
    subst k4
    obtain ⟨um, ua, uh, ul, uo, ui⟩ := u
    dsimp only at *
    have st := Bs.in3 W 28 [.int .i64 mode, .bool armed, .bool home, .int .i64 lat, .int .i64 lon, .int .i64 iso] 36 [.int .i64 4, .int .i64 n, .float .f64 cla, .float .f64 clo] 28 [.int .i64 0, .bool false, .bool false, .int .i64 0, .int .i64 0, .int .i64 0]
    go_enter Try.func14, Try.ntmps14
    have fc0 := (st.box 2 rfl).f6; have fc1 := (st.box 1 rfl).f4; have fc2 := (st.box 0 rfl).f6
    go_wp2_with fail; refine callB st (TG.out _) ?_; clear st fc0 fc1 fc2; intro V1 st
    have fc0 := (st.box 2 rfl).f6; have fc1 := (st.box 1 rfl).f4; have fc2 := (st.box 0 rfl).f6
    go_wp2
    clear fc0 fc1 fc2
    replace st := st.put6 0 (.int .i64 um) (.bool ua) (.bool uh) (.int .i64 ul) (.int .i64 uo) (.int .i64 ui) rfl; obtain ⟨V2, hV, st⟩ := st; rw [hV]; clear hV
    have fc0 := (st.box 2 rfl).f6; have fc1 := (st.box 1 rfl).f4; have fc2 := (st.box 0 rfl).f6
    exact bodyPost_ret (v := .tuple #[.agg #[.int .i64 um, .bool ua, .bool uh, .int .i64 ul, .int .i64 uo, .int .i64 ui], .int .i64 E]) (by simp [results, Try.results14, go_sem, fc0, fc1, fc2]) rfl ⟨rfl, st.lo⟩
  have HS : deltaS s c = if deltaE s c = 0 then deltaT s c else s := rfl
  have HE : deltaE s c = (if c.kind = 2 then (if s.armed = true then 21 else if (soundN s.iso : Int) < 2 then 24 else 0) else if c.kind = 3 then (if s.armed = false then 22 else if s.mode ≠ 1 ∧ s.mode ≠ 5 then 20 else 0) else if c.kind = 5 then isoE s c.n else if c.kind = 6 then (if sensor c.n = false then 1 else 0) else 1) := by
    unfold deltaE; rw [if_neg k1, if_neg k4]
  have HT : deltaT s c = (if c.kind = 2 then setArmed s true 1 else if c.kind = 3 then setArmed s false 0 else if c.kind = 5 then setIso s (orI s.iso c.n.toNat) else setIso s (clI s.iso c.n.toNat)) := by
    unfold deltaT; rw [if_neg k1, if_neg k4]
  have hi := hl.i
  clear hl
  generalize deltaE s c = E at *
  generalize deltaT s c = T at *
  generalize deltaS s c = R at *
  by_cases k2 : c.kind = 2
  · rw [if_pos k2] at HE HT
    clear k1 k4 hi TN
    generalize soundN s.iso = sn at *
    obtain ⟨mode, armed, home, lat, lon, iso⟩ := s
    obtain ⟨kd, n, cla, clo⟩ := c
    dsimp only at *
    subst k2
    cases armed with
    | true =>
      rw [if_pos rfl] at HE
      subst HE
      rw [if_neg (by decide)] at HS
      clear HT
      subst HS
      have st := Bs.in3 W 28 [.int .i64 mode, .bool true, .bool home, .int .i64 lat, .int .i64 lon, .int .i64 iso] 36 [.int .i64 2, .int .i64 n, .float .f64 cla, .float .f64 clo] 28 [.int .i64 0, .bool false, .bool false, .int .i64 0, .int .i64 0, .int .i64 0]
      go_enter Try.func14, Try.ntmps14
      have fc0 := (st.box 2 rfl).f6; have fc1 := (st.box 1 rfl).f4; have fc2 := (st.box 0 rfl).f6
      go_wp2
      clear fc0 fc1 fc2
      clear st; have st := Bs.in3 W 28 [.int .i64 mode, .bool true, .bool home, .int .i64 lat, .int .i64 lon, .int .i64 iso] 36 [.int .i64 2, .int .i64 n, .float .f64 cla, .float .f64 clo] 28 [.int .i64 mode, .bool true, .bool home, .int .i64 lat, .int .i64 lon, .int .i64 iso]
      have fc0 := (st.box 0 rfl).f6
      exact bodyPost_ret (v := .tuple #[.agg #[.int .i64 mode, .bool true, .bool home, .int .i64 lat, .int .i64 lon, .int .i64 iso], .int .i64 21]) (by simp [results, Try.results14, go_sem, fc0]) rfl ⟨rfl, st.lo⟩
    | false =>
      rw [if_neg (by decide)] at HE
      by_cases hn : (sn : Int) < 2
      · rw [if_pos hn] at HE
        have m1 : decide ((sn : Int) < 2) = true := decide_eq_true hn
        have m2 : sn < 2 := by omega
        clear hn
        subst HE
        rw [if_neg (by decide)] at HS
        clear HT
        subst HS
        have st := Bs.in3 W 28 [.int .i64 mode, .bool false, .bool home, .int .i64 lat, .int .i64 lon, .int .i64 iso] 36 [.int .i64 2, .int .i64 n, .float .f64 cla, .float .f64 clo] 28 [.int .i64 0, .bool false, .bool false, .int .i64 0, .int .i64 0, .int .i64 0]
        go_enter Try.func14, Try.ntmps14
        have fc0 := (st.box 2 rfl).f6; have fc1 := (st.box 1 rfl).f4; have fc2 := (st.box 0 rfl).f6
        go_wp2_with fail; refine callB st (TS.out _) ?_; clear st fc0 fc1 fc2; intro V1 st
        have fc0 := (st.box 2 rfl).f6; have fc1 := (st.box 1 rfl).f4; have fc2 := (st.box 0 rfl).f6
        go_wp2
        clear fc0 fc1 fc2
        replace st := st.put6 0 (.int .i64 mode) (.bool false) (.bool home) (.int .i64 lat) (.int .i64 lon) (.int .i64 iso) rfl; obtain ⟨V2, hV, st⟩ := st; rw [hV]; clear hV
        have fc0 := (st.box 2 rfl).f6; have fc1 := (st.box 1 rfl).f4; have fc2 := (st.box 0 rfl).f6
        exact bodyPost_ret (v := .tuple #[.agg #[.int .i64 mode, .bool false, .bool home, .int .i64 lat, .int .i64 lon, .int .i64 iso], .int .i64 24]) (by simp [results, Try.results14, go_sem, fc0, fc1, fc2]) rfl ⟨rfl, st.lo⟩
      · rw [if_neg hn] at HE
        have m1 : decide ((sn : Int) < 2) = false := decide_eq_false hn
        have m2 : ¬ sn < 2 := by omega
        clear hn
        subst HE
        rw [if_pos rfl] at HS
        subst HT
        subst HS
        have st := Bs.in3 W 28 [.int .i64 mode, .bool false, .bool home, .int .i64 lat, .int .i64 lon, .int .i64 iso] 36 [.int .i64 2, .int .i64 n, .float .f64 cla, .float .f64 clo] 28 [.int .i64 0, .bool false, .bool false, .int .i64 0, .int .i64 0, .int .i64 0]
        go_enter Try.func14, Try.ntmps14
        have fc0 := (st.box 2 rfl).f6; have fc1 := (st.box 1 rfl).f4; have fc2 := (st.box 0 rfl).f6
        go_wp2_with fail; refine callB st (TS.out _) ?_; clear st fc0 fc1 fc2; intro V1 st
        have fc0 := (st.box 2 rfl).f6; have fc1 := (st.box 1 rfl).f4; have fc2 := (st.box 0 rfl).f6
        go_wp2
        clear fc0 fc1 fc2
        replace st := ((st.set 2 1 (.bool true) rfl).set 2 0 (.int .i64 1) rfl).name; obtain ⟨V2, hV, st⟩ := st; rw [hV]; clear hV
        have fc0 := (st.box 2 rfl).f6; have fc1 := (st.box 1 rfl).f4; have fc2 := (st.box 0 rfl).f6
        clear fc0 fc1 fc2
        replace st := st.put6 0 (.int .i64 1) (.bool true) (.bool home) (.int .i64 lat) (.int .i64 lon) (.int .i64 iso) rfl; obtain ⟨V3, hV, st⟩ := st; rw [hV]; clear hV
        have fc0 := (st.box 2 rfl).f6; have fc1 := (st.box 1 rfl).f4; have fc2 := (st.box 0 rfl).f6
        exact bodyPost_ret (v := .tuple #[.agg #[.int .i64 1, .bool true, .bool home, .int .i64 lat, .int .i64 lon, .int .i64 iso], .int .i64 0]) (by simp [results, Try.results14, go_sem, fc0, fc1, fc2]) rfl ⟨rfl, st.lo⟩
  by_cases k3 : c.kind = 3
  · rw [if_neg k2, if_pos k3] at HE HT
    clear k1 k2 k4 hi TN TS
    obtain ⟨mode, armed, home, lat, lon, iso⟩ := s
    obtain ⟨kd, n, cla, clo⟩ := c
    dsimp only at *
    subst k3
    cases armed with
    | false =>
      rw [if_pos rfl] at HE
      subst HE
      rw [if_neg (by decide)] at HS
      clear HT
      subst HS
      have st := Bs.in3 W 28 [.int .i64 mode, .bool false, .bool home, .int .i64 lat, .int .i64 lon, .int .i64 iso] 36 [.int .i64 3, .int .i64 n, .float .f64 cla, .float .f64 clo] 28 [.int .i64 0, .bool false, .bool false, .int .i64 0, .int .i64 0, .int .i64 0]
      go_enter Try.func14, Try.ntmps14
      have fc0 := (st.box 2 rfl).f6; have fc1 := (st.box 1 rfl).f4; have fc2 := (st.box 0 rfl).f6
      go_wp2
      clear fc0 fc1 fc2
      clear st; have st := Bs.in3 W 28 [.int .i64 mode, .bool false, .bool home, .int .i64 lat, .int .i64 lon, .int .i64 iso] 36 [.int .i64 3, .int .i64 n, .float .f64 cla, .float .f64 clo] 28 [.int .i64 mode, .bool false, .bool home, .int .i64 lat, .int .i64 lon, .int .i64 iso]
      have fc0 := (st.box 0 rfl).f6
      exact bodyPost_ret (v := .tuple #[.agg #[.int .i64 mode, .bool false, .bool home, .int .i64 lat, .int .i64 lon, .int .i64 iso], .int .i64 22]) (by simp [results, Try.results14, go_sem, fc0]) rfl ⟨rfl, st.lo⟩
    | true =>
      rw [if_neg (by decide)] at HE
      by_cases q1 : mode = 1
      · subst q1
        rw [if_neg (fun k => k.1 rfl)] at HE
        subst HE
        rw [if_pos rfl] at HS
        subst HT
        subst HS
        have st := Bs.in3 W 28 [.int .i64 1, .bool true, .bool home, .int .i64 lat, .int .i64 lon, .int .i64 iso] 36 [.int .i64 3, .int .i64 n, .float .f64 cla, .float .f64 clo] 28 [.int .i64 0, .bool false, .bool false, .int .i64 0, .int .i64 0, .int .i64 0]
        go_enter Try.func14, Try.ntmps14
        have fc0 := (st.box 2 rfl).f6; have fc1 := (st.box 1 rfl).f4; have fc2 := (st.box 0 rfl).f6
        go_wp2
        clear fc0 fc1 fc2
        clear st; have st := Bs.in3 W 28 [.int .i64 0, .bool false, .bool home, .int .i64 lat, .int .i64 lon, .int .i64 iso] 36 [.int .i64 3, .int .i64 n, .float .f64 cla, .float .f64 clo] 28 [.int .i64 0, .bool false, .bool home, .int .i64 lat, .int .i64 lon, .int .i64 iso]
        have fc0 := (st.box 0 rfl).f6
        exact bodyPost_ret (v := .tuple #[.agg #[.int .i64 0, .bool false, .bool home, .int .i64 lat, .int .i64 lon, .int .i64 iso], .int .i64 0]) (by simp [results, Try.results14, go_sem, fc0]) rfl ⟨rfl, st.lo⟩
      · by_cases q5 : mode = 5
        · subst q5
          rw [if_neg (fun k => k.2 rfl)] at HE
          clear q1
          subst HE
          rw [if_pos rfl] at HS
          subst HT
          subst HS
          have st := Bs.in3 W 28 [.int .i64 5, .bool true, .bool home, .int .i64 lat, .int .i64 lon, .int .i64 iso] 36 [.int .i64 3, .int .i64 n, .float .f64 cla, .float .f64 clo] 28 [.int .i64 0, .bool false, .bool false, .int .i64 0, .int .i64 0, .int .i64 0]
          go_enter Try.func14, Try.ntmps14
          have fc0 := (st.box 2 rfl).f6; have fc1 := (st.box 1 rfl).f4; have fc2 := (st.box 0 rfl).f6
          go_wp2
          clear fc0 fc1 fc2
          clear st; have st := Bs.in3 W 28 [.int .i64 0, .bool false, .bool home, .int .i64 lat, .int .i64 lon, .int .i64 iso] 36 [.int .i64 3, .int .i64 n, .float .f64 cla, .float .f64 clo] 28 [.int .i64 0, .bool false, .bool home, .int .i64 lat, .int .i64 lon, .int .i64 iso]
          have fc0 := (st.box 0 rfl).f6
          exact bodyPost_ret (v := .tuple #[.agg #[.int .i64 0, .bool false, .bool home, .int .i64 lat, .int .i64 lon, .int .i64 iso], .int .i64 0]) (by simp [results, Try.results14, go_sem, fc0]) rfl ⟨rfl, st.lo⟩
        · rw [if_pos ⟨q1, q5⟩] at HE
          have n1 : (mode != 1) = true := bne_iff_ne.2 q1
          have n2 : (mode != 5) = true := bne_iff_ne.2 q5
          have n3 : (mode == 1) = false := beq_eq_false_iff_ne.2 q1
          have n4 : (mode == 5) = false := beq_eq_false_iff_ne.2 q5
          clear q1 q5
          subst HE
          rw [if_neg (by decide)] at HS
          clear HT
          subst HS
          have st := Bs.in3 W 28 [.int .i64 mode, .bool true, .bool home, .int .i64 lat, .int .i64 lon, .int .i64 iso] 36 [.int .i64 3, .int .i64 n, .float .f64 cla, .float .f64 clo] 28 [.int .i64 0, .bool false, .bool false, .int .i64 0, .int .i64 0, .int .i64 0]
          go_enter Try.func14, Try.ntmps14
          have fc0 := (st.box 2 rfl).f6; have fc1 := (st.box 1 rfl).f4; have fc2 := (st.box 0 rfl).f6
          go_wp2
          clear fc0 fc1 fc2
          clear st; have st := Bs.in3 W 28 [.int .i64 mode, .bool true, .bool home, .int .i64 lat, .int .i64 lon, .int .i64 iso] 36 [.int .i64 3, .int .i64 n, .float .f64 cla, .float .f64 clo] 28 [.int .i64 mode, .bool true, .bool home, .int .i64 lat, .int .i64 lon, .int .i64 iso]
          have fc0 := (st.box 0 rfl).f6
          exact bodyPost_ret (v := .tuple #[.agg #[.int .i64 mode, .bool true, .bool home, .int .i64 lat, .int .i64 lon, .int .i64 iso], .int .i64 20]) (by simp [results, Try.results14, go_sem, fc0]) rfl ⟨rfl, st.lo⟩
  rw [if_neg k2, if_neg k3] at HE HT
  by_cases k5 : c.kind = 5
  · rw [if_pos k5] at HE HT
    clear k1 k2 k3 k4
    cases hs : sensor c.n with
    | false =>
      rw [show isoE s c.n = 1 from by unfold isoE; rw [hs, if_pos rfl]] at HE
      have hn : c.n < 0 ∨ 3 < c.n := by unfold sensor at hs; have := of_decide_eq_false hs; omega
      clear hs hi TS TN
      obtain ⟨mode, armed, home, lat, lon, iso⟩ := s
      obtain ⟨kd, n, cla, clo⟩ := c
      dsimp only at *
      subst HE
      rw [if_neg (by decide)] at HS
      clear HT
      subst HS
      subst k5
      rcases hn with hn | hn
      · have st := Bs.in3 W 28 [.int .i64 mode, .bool armed, .bool home, .int .i64 lat, .int .i64 lon, .int .i64 iso] 36 [.int .i64 5, .int .i64 n, .float .f64 cla, .float .f64 clo] 28 [.int .i64 0, .bool false, .bool false, .int .i64 0, .int .i64 0, .int .i64 0]
        go_enter Try.func14, Try.ntmps14
        have fc0 := (st.box 2 rfl).f6; have fc1 := (st.box 1 rfl).f4; have fc2 := (st.box 0 rfl).f6
        go_wp2
        clear fc0 fc1 fc2
        clear st; have st := Bs.in3 W 28 [.int .i64 mode, .bool armed, .bool home, .int .i64 lat, .int .i64 lon, .int .i64 iso] 36 [.int .i64 5, .int .i64 n, .float .f64 cla, .float .f64 clo] 28 [.int .i64 mode, .bool armed, .bool home, .int .i64 lat, .int .i64 lon, .int .i64 iso]
        have fc0 := (st.box 0 rfl).f6
        exact bodyPost_ret (v := .tuple #[.agg #[.int .i64 mode, .bool armed, .bool home, .int .i64 lat, .int .i64 lon, .int .i64 iso], .int .i64 1]) (by simp [results, Try.results14, go_sem, fc0]) rfl ⟨rfl, st.lo⟩
      · have h0 : ¬ n < 0 := by omega
        have h1 : n > 3 := by omega
        have st := Bs.in3 W 28 [.int .i64 mode, .bool armed, .bool home, .int .i64 lat, .int .i64 lon, .int .i64 iso] 36 [.int .i64 5, .int .i64 n, .float .f64 cla, .float .f64 clo] 28 [.int .i64 0, .bool false, .bool false, .int .i64 0, .int .i64 0, .int .i64 0]
        go_enter Try.func14, Try.ntmps14
        have fc0 := (st.box 2 rfl).f6; have fc1 := (st.box 1 rfl).f4; have fc2 := (st.box 0 rfl).f6
        go_wp2
        clear fc0 fc1 fc2
        clear st; have st := Bs.in3 W 28 [.int .i64 mode, .bool armed, .bool home, .int .i64 lat, .int .i64 lon, .int .i64 iso] 36 [.int .i64 5, .int .i64 n, .float .f64 cla, .float .f64 clo] 28 [.int .i64 mode, .bool armed, .bool home, .int .i64 lat, .int .i64 lon, .int .i64 iso]
        have fc0 := (st.box 0 rfl).f6
        exact bodyPost_ret (v := .tuple #[.agg #[.int .i64 mode, .bool armed, .bool home, .int .i64 lat, .int .i64 lon, .int .i64 iso], .int .i64 1]) (by simp [results, Try.results14, go_sem, fc0]) rfl ⟨rfl, st.lo⟩
    | true =>
      have hn := sensor_cases hs
      have hE5 : isoE s c.n = if isIso s.iso c.n.toNat = false ∧ (soundN s.iso : Int) - 1 < needsN s.mode then 24 else 0 := by unfold isoE; rw [hs, if_neg (by decide)]
      rw [hE5] at HE
      clear hE5
      clear hs
      have hsle := sound_le s.iso
      have hnle := needs_le s.mode
      generalize soundN s.iso = sn at *
      generalize needsN s.mode = nd at *
      obtain ⟨mode, armed, home, lat, lon, iso⟩ := s
      obtain ⟨kd, n, cla, clo⟩ := c
      dsimp only at *
      subst k5
      rcases hn with rfl | rfl | rfl | rfl
      · obtain ⟨b1, b2, b3⟩ := bits_iso hi 0 (by decide)
        rw [show ((2 : Int) ^ 0) = 1 from rfl] at b1 b2 b3
        rw [show (0 : Int).toNat = 0 from rfl] at HT HE
        clear hi
        generalize orI iso 0 = v at *
        cases hb : isIso iso 0 with
        | true =>
          rw [hb] at b1 HE
          rw [if_neg (fun k => by cases k.1)] at HE
          rw [Bool.not_true] at b1
          clear hb b3 hsle hnle
          subst HE
          rw [if_pos rfl] at HS
          subst HT
          subst HS
          have st := Bs.in3 W 28 [.int .i64 mode, .bool armed, .bool home, .int .i64 lat, .int .i64 lon, .int .i64 iso] 36 [.int .i64 5, .int .i64 0, .float .f64 cla, .float .f64 clo] 28 [.int .i64 0, .bool false, .bool false, .int .i64 0, .int .i64 0, .int .i64 0]
          go_enter Try.func14, Try.ntmps14
          have fc0 := (st.box 2 rfl).f6; have fc1 := (st.box 1 rfl).f4; have fc2 := (st.box 0 rfl).f6
          go_wp2_with fail
          clear fc0 fc1 fc2
          replace st := st.name; obtain ⟨V1, hV, st⟩ := st; rw [hV]; clear hV
          replace st := st.drew
          refine rh (fun w => C6 w (W.heap.size) (.int .i64 mode) (.bool armed) (.bool home) (.int .i64 lat) (.int .i64 lon) (.int .i64 iso)) ((st.box 2 rfl).c6) fun hHeld => ?_
          generalize V1.drew = V2 at *
          refine tq 0 ?_; try simp only [Act.put, l1, l2, l3, l4, l5, l6]
          refine tq 1 ?_; try simp only [Act.put, l1, l2, l3, l4, l5, l6]
          refine tq 2 ?_; try simp only [Act.put, l1, l2, l3, l4, l5, l6]
          refine tq 3 ?_; try simp only [Act.put, l1, l2, l3, l4, l5, l6]
          refine tq 4 ?_; try simp only [Act.put, l1, l2, l3, l4, l5, l6]
          refine tq 5 ?_; try simp only [Act.put, l1, l2, l3, l4, l5, l6]
          refine sk 6 ?_; try simp only [Act.put, l1, l2, l3, l4, l5, l6]
          refine sk 7 ?_; try simp only [Act.put, l1, l2, l3, l4, l5, l6]
          refine sk 8 ?_; try simp only [Act.put, l1, l2, l3, l4, l5, l6]
          refine sk 9 ?_; try simp only [Act.put, l1, l2, l3, l4, l5, l6]
          refine sk 10 ?_; try simp only [Act.put, l1, l2, l3, l4, l5, l6]
          refine sk 11 ?_; try simp only [Act.put, l1, l2, l3, l4, l5, l6]
          refine sk 12 ?_; try simp only [Act.put, l1, l2, l3, l4, l5, l6]
          refine tq 13 ?_; try simp only [Act.put, l1, l2, l3, l4, l5, l6]
          refine wpAnyH_done (by kernel_rfl) ?_ _; clear hHeld
          have fc0 := (st.box 2 rfl).f6; have fc1 := (st.box 0 rfl).f6
          go_wp2
          clear fc0 fc1
          replace st := (st.set 2 5 (.int .i64 v) rfl).name; obtain ⟨V3, hV, st⟩ := st; rw [hV]; clear hV
          have fc0 := (st.box 2 rfl).f6; have fc1 := (st.box 0 rfl).f6
          clear fc0 fc1
          replace st := st.put6 0 (.int .i64 mode) (.bool armed) (.bool home) (.int .i64 lat) (.int .i64 lon) (.int .i64 v) rfl; obtain ⟨V4, hV, st⟩ := st; rw [hV]; clear hV
          have fc0 := (st.box 2 rfl).f6; have fc1 := (st.box 0 rfl).f6
          exact bodyPost_ret (v := .tuple #[.agg #[.int .i64 mode, .bool armed, .bool home, .int .i64 lat, .int .i64 lon, .int .i64 v], .int .i64 0]) (by simp [results, Try.results14, go_sem, fc0, fc1]) rfl ⟨rfl, st.lo⟩
        | false =>
          rw [hb] at b1 HE
          rw [Bool.not_false] at b1
          clear hb b3
          have w1 : IntKind.i64.wrap ((sn : Int) - 1) = (sn : Int) - 1 := IntWalk.i64_in _ (by omega)
          have w2 : wrap64 ((sn : Int) - 1) = (sn : Int) - 1 := IntWalk.wrap64_in _ (by omega)
          clear hsle hnle
          by_cases hn : (sn : Int) - 1 < nd
          · rw [if_pos ⟨rfl, hn⟩] at HE
            have m1 : decide ((sn : Int) - 1 < nd) = true := decide_eq_true hn
            clear hn
            subst HE
            rw [if_neg (by decide)] at HS
            clear HT
            subst HS
            have st := Bs.in3 W 28 [.int .i64 mode, .bool armed, .bool home, .int .i64 lat, .int .i64 lon, .int .i64 iso] 36 [.int .i64 5, .int .i64 0, .float .f64 cla, .float .f64 clo] 28 [.int .i64 0, .bool false, .bool false, .int .i64 0, .int .i64 0, .int .i64 0]
            go_enter Try.func14, Try.ntmps14
            have fc0 := (st.box 2 rfl).f6; have fc1 := (st.box 1 rfl).f4; have fc2 := (st.box 0 rfl).f6
            go_wp2_with fail
            clear fc0 fc1 fc2
            replace st := st.name; obtain ⟨V1, hV, st⟩ := st; rw [hV]; clear hV
            replace st := st.drew
            refine rh (fun w => C6 w (W.heap.size) (.int .i64 mode) (.bool armed) (.bool home) (.int .i64 lat) (.int .i64 lon) (.int .i64 iso)) ((st.box 2 rfl).c6) fun hHeld => ?_
            generalize V1.drew = V2 at *
            refine tq 0 ?_; try simp only [Act.put, l1, l2, l3, l4, l5, l6]
            refine tq 1 ?_; try simp only [Act.put, l1, l2, l3, l4, l5, l6]
            refine tq 2 ?_; try simp only [Act.put, l1, l2, l3, l4, l5, l6]
            refine tq 3 ?_; try simp only [Act.put, l1, l2, l3, l4, l5, l6]
            refine tq 4 ?_; try simp only [Act.put, l1, l2, l3, l4, l5, l6]
            refine tq 5 ?_; try simp only [Act.put, l1, l2, l3, l4, l5, l6]
            refine tq 6 ?_; try simp only [Act.put, l1, l2, l3, l4, l5, l6]
            refine tq 9 ?_; try simp only [Act.put, l1, l2, l3, l4, l5, l6]
            refine tq 10 ?_; try simp only [Act.put, l1, l2, l3, l4, l5, l6]
            refine rd 7 fun K hK => ?_
            have fc0 := (st.box 2 rfl).f6; have fc1 := (st.box 0 rfl).f6
            go_simp
            refine callB st (TS.out _) ?_; clear st fc0 fc1; intro V3 st
            have fc0 := (st.box 2 rfl).f6; have fc1 := (st.box 0 rfl).f6
            try go_wp2_with fail
            clear hHeld fc0 fc1; refine hK.out _ _ ((st.box 2 rfl).c6) fun hHeld => ?_; clear hK K
            try simp only [Act.put, l1, l2, l3, l4, l5, l6]
            refine tq 8 ?_; try simp only [Act.put, l1, l2, l3, l4, l5, l6]
            refine rd 11 fun K hK => ?_
            have fc0 := (st.box 2 rfl).f6; have fc1 := (st.box 0 rfl).f6
            go_simp
            refine callQ (TN.out _) ?_
            try go_wp2_with fail
            clear hHeld fc0 fc1; refine hK.out _ _ ((st.box 2 rfl).c6) fun hHeld => ?_; clear hK K
            try simp only [Act.put, l1, l2, l3, l4, l5, l6]
            refine tq 12 ?_; try simp only [Act.put, l1, l2, l3, l4, l5, l6]
            refine tq 13 ?_; try simp only [Act.put, l1, l2, l3, l4, l5, l6]
            refine wpAnyH_done (by kernel_rfl) ?_ _; clear hHeld
            have fc0 := (st.box 2 rfl).f6; have fc1 := (st.box 0 rfl).f6
            go_wp2
            clear fc0 fc1
            replace st := st.put6 0 (.int .i64 mode) (.bool armed) (.bool home) (.int .i64 lat) (.int .i64 lon) (.int .i64 iso) rfl; obtain ⟨V4, hV, st⟩ := st; rw [hV]; clear hV
            have fc0 := (st.box 2 rfl).f6; have fc1 := (st.box 0 rfl).f6
            exact bodyPost_ret (v := .tuple #[.agg #[.int .i64 mode, .bool armed, .bool home, .int .i64 lat, .int .i64 lon, .int .i64 iso], .int .i64 24]) (by simp [results, Try.results14, go_sem, fc0, fc1]) rfl ⟨rfl, st.lo⟩
          · rw [if_neg (fun k => hn k.2)] at HE
            have m1 : decide ((sn : Int) - 1 < nd) = false := decide_eq_false hn
            clear hn
            subst HE
            rw [if_pos rfl] at HS
            subst HT
            subst HS
            have st := Bs.in3 W 28 [.int .i64 mode, .bool armed, .bool home, .int .i64 lat, .int .i64 lon, .int .i64 iso] 36 [.int .i64 5, .int .i64 0, .float .f64 cla, .float .f64 clo] 28 [.int .i64 0, .bool false, .bool false, .int .i64 0, .int .i64 0, .int .i64 0]
            go_enter Try.func14, Try.ntmps14
            have fc0 := (st.box 2 rfl).f6; have fc1 := (st.box 1 rfl).f4; have fc2 := (st.box 0 rfl).f6
            go_wp2_with fail
            clear fc0 fc1 fc2
            replace st := st.name; obtain ⟨V1, hV, st⟩ := st; rw [hV]; clear hV
            replace st := st.drew
            refine rh (fun w => C6 w (W.heap.size) (.int .i64 mode) (.bool armed) (.bool home) (.int .i64 lat) (.int .i64 lon) (.int .i64 iso)) ((st.box 2 rfl).c6) fun hHeld => ?_
            generalize V1.drew = V2 at *
            refine tq 0 ?_; try simp only [Act.put, l1, l2, l3, l4, l5, l6]
            refine tq 1 ?_; try simp only [Act.put, l1, l2, l3, l4, l5, l6]
            refine tq 2 ?_; try simp only [Act.put, l1, l2, l3, l4, l5, l6]
            refine tq 3 ?_; try simp only [Act.put, l1, l2, l3, l4, l5, l6]
            refine tq 4 ?_; try simp only [Act.put, l1, l2, l3, l4, l5, l6]
            refine tq 5 ?_; try simp only [Act.put, l1, l2, l3, l4, l5, l6]
            refine tq 6 ?_; try simp only [Act.put, l1, l2, l3, l4, l5, l6]
            refine tq 9 ?_; try simp only [Act.put, l1, l2, l3, l4, l5, l6]
            refine tq 10 ?_; try simp only [Act.put, l1, l2, l3, l4, l5, l6]
            refine rd 7 fun K hK => ?_
            have fc0 := (st.box 2 rfl).f6; have fc1 := (st.box 0 rfl).f6
            go_simp
            refine callB st (TS.out _) ?_; clear st fc0 fc1; intro V3 st
            have fc0 := (st.box 2 rfl).f6; have fc1 := (st.box 0 rfl).f6
            try go_wp2_with fail
            clear hHeld fc0 fc1; refine hK.out _ _ ((st.box 2 rfl).c6) fun hHeld => ?_; clear hK K
            try simp only [Act.put, l1, l2, l3, l4, l5, l6]
            refine tq 8 ?_; try simp only [Act.put, l1, l2, l3, l4, l5, l6]
            refine rd 11 fun K hK => ?_
            have fc0 := (st.box 2 rfl).f6; have fc1 := (st.box 0 rfl).f6
            go_simp
            refine callQ (TN.out _) ?_
            try go_wp2_with fail
            clear hHeld fc0 fc1; refine hK.out _ _ ((st.box 2 rfl).c6) fun hHeld => ?_; clear hK K
            try simp only [Act.put, l1, l2, l3, l4, l5, l6]
            refine tq 12 ?_; try simp only [Act.put, l1, l2, l3, l4, l5, l6]
            refine tq 13 ?_; try simp only [Act.put, l1, l2, l3, l4, l5, l6]
            refine wpAnyH_done (by kernel_rfl) ?_ _; clear hHeld
            have fc0 := (st.box 2 rfl).f6; have fc1 := (st.box 0 rfl).f6
            go_wp2
            clear fc0 fc1
            replace st := (st.set 2 5 (.int .i64 v) rfl).name; obtain ⟨V4, hV, st⟩ := st; rw [hV]; clear hV
            have fc0 := (st.box 2 rfl).f6; have fc1 := (st.box 0 rfl).f6
            clear fc0 fc1
            replace st := st.put6 0 (.int .i64 mode) (.bool armed) (.bool home) (.int .i64 lat) (.int .i64 lon) (.int .i64 v) rfl; obtain ⟨V5, hV, st⟩ := st; rw [hV]; clear hV
            have fc0 := (st.box 2 rfl).f6; have fc1 := (st.box 0 rfl).f6
            exact bodyPost_ret (v := .tuple #[.agg #[.int .i64 mode, .bool armed, .bool home, .int .i64 lat, .int .i64 lon, .int .i64 v], .int .i64 0]) (by simp [results, Try.results14, go_sem, fc0, fc1]) rfl ⟨rfl, st.lo⟩
      · obtain ⟨b1, b2, b3⟩ := bits_iso hi 1 (by decide)
        rw [show ((2 : Int) ^ 1) = 2 from rfl] at b1 b2 b3
        rw [show (1 : Int).toNat = 1 from rfl] at HT HE
        clear hi
        generalize orI iso 1 = v at *
        cases hb : isIso iso 1 with
        | true =>
          rw [hb] at b1 HE
          rw [if_neg (fun k => by cases k.1)] at HE
          rw [Bool.not_true] at b1
          clear hb b3 hsle hnle
          subst HE
          rw [if_pos rfl] at HS
          subst HT
          subst HS
          have st := Bs.in3 W 28 [.int .i64 mode, .bool armed, .bool home, .int .i64 lat, .int .i64 lon, .int .i64 iso] 36 [.int .i64 5, .int .i64 1, .float .f64 cla, .float .f64 clo] 28 [.int .i64 0, .bool false, .bool false, .int .i64 0, .int .i64 0, .int .i64 0]
          go_enter Try.func14, Try.ntmps14
          have fc0 := (st.box 2 rfl).f6; have fc1 := (st.box 1 rfl).f4; have fc2 := (st.box 0 rfl).f6
          go_wp2_with fail
          clear fc0 fc1 fc2
          replace st := st.name; obtain ⟨V1, hV, st⟩ := st; rw [hV]; clear hV
          replace st := st.drew
          refine rh (fun w => C6 w (W.heap.size) (.int .i64 mode) (.bool armed) (.bool home) (.int .i64 lat) (.int .i64 lon) (.int .i64 iso)) ((st.box 2 rfl).c6) fun hHeld => ?_
          generalize V1.drew = V2 at *
          refine tq 0 ?_; try simp only [Act.put, l1, l2, l3, l4, l5, l6]
          refine tq 1 ?_; try simp only [Act.put, l1, l2, l3, l4, l5, l6]
          refine tq 2 ?_; try simp only [Act.put, l1, l2, l3, l4, l5, l6]
          refine tq 3 ?_; try simp only [Act.put, l1, l2, l3, l4, l5, l6]
          refine tq 4 ?_; try simp only [Act.put, l1, l2, l3, l4, l5, l6]
          refine tq 5 ?_; try simp only [Act.put, l1, l2, l3, l4, l5, l6]
          refine sk 6 ?_; try simp only [Act.put, l1, l2, l3, l4, l5, l6]
          refine sk 7 ?_; try simp only [Act.put, l1, l2, l3, l4, l5, l6]
          refine sk 8 ?_; try simp only [Act.put, l1, l2, l3, l4, l5, l6]
          refine sk 9 ?_; try simp only [Act.put, l1, l2, l3, l4, l5, l6]
          refine sk 10 ?_; try simp only [Act.put, l1, l2, l3, l4, l5, l6]
          refine sk 11 ?_; try simp only [Act.put, l1, l2, l3, l4, l5, l6]
          refine sk 12 ?_; try simp only [Act.put, l1, l2, l3, l4, l5, l6]
          refine tq 13 ?_; try simp only [Act.put, l1, l2, l3, l4, l5, l6]
          refine wpAnyH_done (by kernel_rfl) ?_ _; clear hHeld
          have fc0 := (st.box 2 rfl).f6; have fc1 := (st.box 0 rfl).f6
          go_wp2
          clear fc0 fc1
          replace st := (st.set 2 5 (.int .i64 v) rfl).name; obtain ⟨V3, hV, st⟩ := st; rw [hV]; clear hV
          have fc0 := (st.box 2 rfl).f6; have fc1 := (st.box 0 rfl).f6
          clear fc0 fc1
          replace st := st.put6 0 (.int .i64 mode) (.bool armed) (.bool home) (.int .i64 lat) (.int .i64 lon) (.int .i64 v) rfl; obtain ⟨V4, hV, st⟩ := st; rw [hV]; clear hV
          have fc0 := (st.box 2 rfl).f6; have fc1 := (st.box 0 rfl).f6
          exact bodyPost_ret (v := .tuple #[.agg #[.int .i64 mode, .bool armed, .bool home, .int .i64 lat, .int .i64 lon, .int .i64 v], .int .i64 0]) (by simp [results, Try.results14, go_sem, fc0, fc1]) rfl ⟨rfl, st.lo⟩
        | false =>
          rw [hb] at b1 HE
          rw [Bool.not_false] at b1
          clear hb b3
          have w1 : IntKind.i64.wrap ((sn : Int) - 1) = (sn : Int) - 1 := IntWalk.i64_in _ (by omega)
          have w2 : wrap64 ((sn : Int) - 1) = (sn : Int) - 1 := IntWalk.wrap64_in _ (by omega)
          clear hsle hnle
          by_cases hn : (sn : Int) - 1 < nd
          · rw [if_pos ⟨rfl, hn⟩] at HE
            have m1 : decide ((sn : Int) - 1 < nd) = true := decide_eq_true hn
            clear hn
            subst HE
            rw [if_neg (by decide)] at HS
            clear HT
            subst HS
            have st := Bs.in3 W 28 [.int .i64 mode, .bool armed, .bool home, .int .i64 lat, .int .i64 lon, .int .i64 iso] 36 [.int .i64 5, .int .i64 1, .float .f64 cla, .float .f64 clo] 28 [.int .i64 0, .bool false, .bool false, .int .i64 0, .int .i64 0, .int .i64 0]
            go_enter Try.func14, Try.ntmps14
            have fc0 := (st.box 2 rfl).f6; have fc1 := (st.box 1 rfl).f4; have fc2 := (st.box 0 rfl).f6
            go_wp2_with fail
            clear fc0 fc1 fc2
            replace st := st.name; obtain ⟨V1, hV, st⟩ := st; rw [hV]; clear hV
            replace st := st.drew
            refine rh (fun w => C6 w (W.heap.size) (.int .i64 mode) (.bool armed) (.bool home) (.int .i64 lat) (.int .i64 lon) (.int .i64 iso)) ((st.box 2 rfl).c6) fun hHeld => ?_
            generalize V1.drew = V2 at *
            refine tq 0 ?_; try simp only [Act.put, l1, l2, l3, l4, l5, l6]
            refine tq 1 ?_; try simp only [Act.put, l1, l2, l3, l4, l5, l6]
            refine tq 2 ?_; try simp only [Act.put, l1, l2, l3, l4, l5, l6]
            refine tq 3 ?_; try simp only [Act.put, l1, l2, l3, l4, l5, l6]
            refine tq 4 ?_; try simp only [Act.put, l1, l2, l3, l4, l5, l6]
            refine tq 5 ?_; try simp only [Act.put, l1, l2, l3, l4, l5, l6]
            refine tq 6 ?_; try simp only [Act.put, l1, l2, l3, l4, l5, l6]
            refine tq 9 ?_; try simp only [Act.put, l1, l2, l3, l4, l5, l6]
            refine tq 10 ?_; try simp only [Act.put, l1, l2, l3, l4, l5, l6]
            refine rd 7 fun K hK => ?_
            have fc0 := (st.box 2 rfl).f6; have fc1 := (st.box 0 rfl).f6
            go_simp
            refine callB st (TS.out _) ?_; clear st fc0 fc1; intro V3 st
            have fc0 := (st.box 2 rfl).f6; have fc1 := (st.box 0 rfl).f6
            try go_wp2_with fail
            clear hHeld fc0 fc1; refine hK.out _ _ ((st.box 2 rfl).c6) fun hHeld => ?_; clear hK K
            try simp only [Act.put, l1, l2, l3, l4, l5, l6]
            refine tq 8 ?_; try simp only [Act.put, l1, l2, l3, l4, l5, l6]
            refine rd 11 fun K hK => ?_
            have fc0 := (st.box 2 rfl).f6; have fc1 := (st.box 0 rfl).f6
            go_simp
            refine callQ (TN.out _) ?_
            try go_wp2_with fail
            clear hHeld fc0 fc1; refine hK.out _ _ ((st.box 2 rfl).c6) fun hHeld => ?_; clear hK K
            try simp only [Act.put, l1, l2, l3, l4, l5, l6]
            refine tq 12 ?_; try simp only [Act.put, l1, l2, l3, l4, l5, l6]
            refine tq 13 ?_; try simp only [Act.put, l1, l2, l3, l4, l5, l6]
            refine wpAnyH_done (by kernel_rfl) ?_ _; clear hHeld
            have fc0 := (st.box 2 rfl).f6; have fc1 := (st.box 0 rfl).f6
            go_wp2
            clear fc0 fc1
            replace st := st.put6 0 (.int .i64 mode) (.bool armed) (.bool home) (.int .i64 lat) (.int .i64 lon) (.int .i64 iso) rfl; obtain ⟨V4, hV, st⟩ := st; rw [hV]; clear hV
            have fc0 := (st.box 2 rfl).f6; have fc1 := (st.box 0 rfl).f6
            exact bodyPost_ret (v := .tuple #[.agg #[.int .i64 mode, .bool armed, .bool home, .int .i64 lat, .int .i64 lon, .int .i64 iso], .int .i64 24]) (by simp [results, Try.results14, go_sem, fc0, fc1]) rfl ⟨rfl, st.lo⟩
          · rw [if_neg (fun k => hn k.2)] at HE
            have m1 : decide ((sn : Int) - 1 < nd) = false := decide_eq_false hn
            clear hn
            subst HE
            rw [if_pos rfl] at HS
            subst HT
            subst HS
            have st := Bs.in3 W 28 [.int .i64 mode, .bool armed, .bool home, .int .i64 lat, .int .i64 lon, .int .i64 iso] 36 [.int .i64 5, .int .i64 1, .float .f64 cla, .float .f64 clo] 28 [.int .i64 0, .bool false, .bool false, .int .i64 0, .int .i64 0, .int .i64 0]
            go_enter Try.func14, Try.ntmps14
            have fc0 := (st.box 2 rfl).f6; have fc1 := (st.box 1 rfl).f4; have fc2 := (st.box 0 rfl).f6
            go_wp2_with fail
            clear fc0 fc1 fc2
            replace st := st.name; obtain ⟨V1, hV, st⟩ := st; rw [hV]; clear hV
            replace st := st.drew
            refine rh (fun w => C6 w (W.heap.size) (.int .i64 mode) (.bool armed) (.bool home) (.int .i64 lat) (.int .i64 lon) (.int .i64 iso)) ((st.box 2 rfl).c6) fun hHeld => ?_
            generalize V1.drew = V2 at *
            refine tq 0 ?_; try simp only [Act.put, l1, l2, l3, l4, l5, l6]
            refine tq 1 ?_; try simp only [Act.put, l1, l2, l3, l4, l5, l6]
            refine tq 2 ?_; try simp only [Act.put, l1, l2, l3, l4, l5, l6]
            refine tq 3 ?_; try simp only [Act.put, l1, l2, l3, l4, l5, l6]
            refine tq 4 ?_; try simp only [Act.put, l1, l2, l3, l4, l5, l6]
            refine tq 5 ?_; try simp only [Act.put, l1, l2, l3, l4, l5, l6]
            refine tq 6 ?_; try simp only [Act.put, l1, l2, l3, l4, l5, l6]
            refine tq 9 ?_; try simp only [Act.put, l1, l2, l3, l4, l5, l6]
            refine tq 10 ?_; try simp only [Act.put, l1, l2, l3, l4, l5, l6]
            refine rd 7 fun K hK => ?_
            have fc0 := (st.box 2 rfl).f6; have fc1 := (st.box 0 rfl).f6
            go_simp
            refine callB st (TS.out _) ?_; clear st fc0 fc1; intro V3 st
            have fc0 := (st.box 2 rfl).f6; have fc1 := (st.box 0 rfl).f6
            try go_wp2_with fail
            clear hHeld fc0 fc1; refine hK.out _ _ ((st.box 2 rfl).c6) fun hHeld => ?_; clear hK K
            try simp only [Act.put, l1, l2, l3, l4, l5, l6]
            refine tq 8 ?_; try simp only [Act.put, l1, l2, l3, l4, l5, l6]
            refine rd 11 fun K hK => ?_
            have fc0 := (st.box 2 rfl).f6; have fc1 := (st.box 0 rfl).f6
            go_simp
            refine callQ (TN.out _) ?_
            try go_wp2_with fail
            clear hHeld fc0 fc1; refine hK.out _ _ ((st.box 2 rfl).c6) fun hHeld => ?_; clear hK K
            try simp only [Act.put, l1, l2, l3, l4, l5, l6]
            refine tq 12 ?_; try simp only [Act.put, l1, l2, l3, l4, l5, l6]
            refine tq 13 ?_; try simp only [Act.put, l1, l2, l3, l4, l5, l6]
            refine wpAnyH_done (by kernel_rfl) ?_ _; clear hHeld
            have fc0 := (st.box 2 rfl).f6; have fc1 := (st.box 0 rfl).f6
            go_wp2
            clear fc0 fc1
            replace st := (st.set 2 5 (.int .i64 v) rfl).name; obtain ⟨V4, hV, st⟩ := st; rw [hV]; clear hV
            have fc0 := (st.box 2 rfl).f6; have fc1 := (st.box 0 rfl).f6
            clear fc0 fc1
            replace st := st.put6 0 (.int .i64 mode) (.bool armed) (.bool home) (.int .i64 lat) (.int .i64 lon) (.int .i64 v) rfl; obtain ⟨V5, hV, st⟩ := st; rw [hV]; clear hV
            have fc0 := (st.box 2 rfl).f6; have fc1 := (st.box 0 rfl).f6
            exact bodyPost_ret (v := .tuple #[.agg #[.int .i64 mode, .bool armed, .bool home, .int .i64 lat, .int .i64 lon, .int .i64 v], .int .i64 0]) (by simp [results, Try.results14, go_sem, fc0, fc1]) rfl ⟨rfl, st.lo⟩
      · obtain ⟨b1, b2, b3⟩ := bits_iso hi 2 (by decide)
        rw [show ((2 : Int) ^ 2) = 4 from rfl] at b1 b2 b3
        rw [show (2 : Int).toNat = 2 from rfl] at HT HE
        clear hi
        generalize orI iso 2 = v at *
        cases hb : isIso iso 2 with
        | true =>
          rw [hb] at b1 HE
          rw [if_neg (fun k => by cases k.1)] at HE
          rw [Bool.not_true] at b1
          clear hb b3 hsle hnle
          subst HE
          rw [if_pos rfl] at HS
          subst HT
          subst HS
          have st := Bs.in3 W 28 [.int .i64 mode, .bool armed, .bool home, .int .i64 lat, .int .i64 lon, .int .i64 iso] 36 [.int .i64 5, .int .i64 2, .float .f64 cla, .float .f64 clo] 28 [.int .i64 0, .bool false, .bool false, .int .i64 0, .int .i64 0, .int .i64 0]
          go_enter Try.func14, Try.ntmps14
          have fc0 := (st.box 2 rfl).f6; have fc1 := (st.box 1 rfl).f4; have fc2 := (st.box 0 rfl).f6
          go_wp2_with fail
          clear fc0 fc1 fc2
          replace st := st.name; obtain ⟨V1, hV, st⟩ := st; rw [hV]; clear hV
          replace st := st.drew
          refine rh (fun w => C6 w (W.heap.size) (.int .i64 mode) (.bool armed) (.bool home) (.int .i64 lat) (.int .i64 lon) (.int .i64 iso)) ((st.box 2 rfl).c6) fun hHeld => ?_
          generalize V1.drew = V2 at *
          refine tq 0 ?_; try simp only [Act.put, l1, l2, l3, l4, l5, l6]
          refine tq 1 ?_; try simp only [Act.put, l1, l2, l3, l4, l5, l6]
          refine tq 2 ?_; try simp only [Act.put, l1, l2, l3, l4, l5, l6]
          refine tq 3 ?_; try simp only [Act.put, l1, l2, l3, l4, l5, l6]
          refine tq 4 ?_; try simp only [Act.put, l1, l2, l3, l4, l5, l6]
          refine tq 5 ?_; try simp only [Act.put, l1, l2, l3, l4, l5, l6]
          refine sk 6 ?_; try simp only [Act.put, l1, l2, l3, l4, l5, l6]
          refine sk 7 ?_; try simp only [Act.put, l1, l2, l3, l4, l5, l6]
          refine sk 8 ?_; try simp only [Act.put, l1, l2, l3, l4, l5, l6]
          refine sk 9 ?_; try simp only [Act.put, l1, l2, l3, l4, l5, l6]
          refine sk 10 ?_; try simp only [Act.put, l1, l2, l3, l4, l5, l6]
          refine sk 11 ?_; try simp only [Act.put, l1, l2, l3, l4, l5, l6]
          refine sk 12 ?_; try simp only [Act.put, l1, l2, l3, l4, l5, l6]
          refine tq 13 ?_; try simp only [Act.put, l1, l2, l3, l4, l5, l6]
          refine wpAnyH_done (by kernel_rfl) ?_ _; clear hHeld
          have fc0 := (st.box 2 rfl).f6; have fc1 := (st.box 0 rfl).f6
          go_wp2
          clear fc0 fc1
          replace st := (st.set 2 5 (.int .i64 v) rfl).name; obtain ⟨V3, hV, st⟩ := st; rw [hV]; clear hV
          have fc0 := (st.box 2 rfl).f6; have fc1 := (st.box 0 rfl).f6
          clear fc0 fc1
          replace st := st.put6 0 (.int .i64 mode) (.bool armed) (.bool home) (.int .i64 lat) (.int .i64 lon) (.int .i64 v) rfl; obtain ⟨V4, hV, st⟩ := st; rw [hV]; clear hV
          have fc0 := (st.box 2 rfl).f6; have fc1 := (st.box 0 rfl).f6
          exact bodyPost_ret (v := .tuple #[.agg #[.int .i64 mode, .bool armed, .bool home, .int .i64 lat, .int .i64 lon, .int .i64 v], .int .i64 0]) (by simp [results, Try.results14, go_sem, fc0, fc1]) rfl ⟨rfl, st.lo⟩
        | false =>
          rw [hb] at b1 HE
          rw [Bool.not_false] at b1
          clear hb b3
          have w1 : IntKind.i64.wrap ((sn : Int) - 1) = (sn : Int) - 1 := IntWalk.i64_in _ (by omega)
          have w2 : wrap64 ((sn : Int) - 1) = (sn : Int) - 1 := IntWalk.wrap64_in _ (by omega)
          clear hsle hnle
          by_cases hn : (sn : Int) - 1 < nd
          · rw [if_pos ⟨rfl, hn⟩] at HE
            have m1 : decide ((sn : Int) - 1 < nd) = true := decide_eq_true hn
            clear hn
            subst HE
            rw [if_neg (by decide)] at HS
            clear HT
            subst HS
            have st := Bs.in3 W 28 [.int .i64 mode, .bool armed, .bool home, .int .i64 lat, .int .i64 lon, .int .i64 iso] 36 [.int .i64 5, .int .i64 2, .float .f64 cla, .float .f64 clo] 28 [.int .i64 0, .bool false, .bool false, .int .i64 0, .int .i64 0, .int .i64 0]
            go_enter Try.func14, Try.ntmps14
            have fc0 := (st.box 2 rfl).f6; have fc1 := (st.box 1 rfl).f4; have fc2 := (st.box 0 rfl).f6
            go_wp2_with fail
            clear fc0 fc1 fc2
            replace st := st.name; obtain ⟨V1, hV, st⟩ := st; rw [hV]; clear hV
            replace st := st.drew
            refine rh (fun w => C6 w (W.heap.size) (.int .i64 mode) (.bool armed) (.bool home) (.int .i64 lat) (.int .i64 lon) (.int .i64 iso)) ((st.box 2 rfl).c6) fun hHeld => ?_
            generalize V1.drew = V2 at *
            refine tq 0 ?_; try simp only [Act.put, l1, l2, l3, l4, l5, l6]
            refine tq 1 ?_; try simp only [Act.put, l1, l2, l3, l4, l5, l6]
            refine tq 2 ?_; try simp only [Act.put, l1, l2, l3, l4, l5, l6]
            refine tq 3 ?_; try simp only [Act.put, l1, l2, l3, l4, l5, l6]
            refine tq 4 ?_; try simp only [Act.put, l1, l2, l3, l4, l5, l6]
            refine tq 5 ?_; try simp only [Act.put, l1, l2, l3, l4, l5, l6]
            refine tq 6 ?_; try simp only [Act.put, l1, l2, l3, l4, l5, l6]
            refine tq 9 ?_; try simp only [Act.put, l1, l2, l3, l4, l5, l6]
            refine tq 10 ?_; try simp only [Act.put, l1, l2, l3, l4, l5, l6]
            refine rd 7 fun K hK => ?_
            have fc0 := (st.box 2 rfl).f6; have fc1 := (st.box 0 rfl).f6
            go_simp
            refine callB st (TS.out _) ?_; clear st fc0 fc1; intro V3 st
            have fc0 := (st.box 2 rfl).f6; have fc1 := (st.box 0 rfl).f6
            try go_wp2_with fail
            clear hHeld fc0 fc1; refine hK.out _ _ ((st.box 2 rfl).c6) fun hHeld => ?_; clear hK K
            try simp only [Act.put, l1, l2, l3, l4, l5, l6]
            refine tq 8 ?_; try simp only [Act.put, l1, l2, l3, l4, l5, l6]
            refine rd 11 fun K hK => ?_
            have fc0 := (st.box 2 rfl).f6; have fc1 := (st.box 0 rfl).f6
            go_simp
            refine callQ (TN.out _) ?_
            try go_wp2_with fail
            clear hHeld fc0 fc1; refine hK.out _ _ ((st.box 2 rfl).c6) fun hHeld => ?_; clear hK K
            try simp only [Act.put, l1, l2, l3, l4, l5, l6]
            refine tq 12 ?_; try simp only [Act.put, l1, l2, l3, l4, l5, l6]
            refine tq 13 ?_; try simp only [Act.put, l1, l2, l3, l4, l5, l6]
            refine wpAnyH_done (by kernel_rfl) ?_ _; clear hHeld
            have fc0 := (st.box 2 rfl).f6; have fc1 := (st.box 0 rfl).f6
            go_wp2
            clear fc0 fc1
            replace st := st.put6 0 (.int .i64 mode) (.bool armed) (.bool home) (.int .i64 lat) (.int .i64 lon) (.int .i64 iso) rfl; obtain ⟨V4, hV, st⟩ := st; rw [hV]; clear hV
            have fc0 := (st.box 2 rfl).f6; have fc1 := (st.box 0 rfl).f6
            exact bodyPost_ret (v := .tuple #[.agg #[.int .i64 mode, .bool armed, .bool home, .int .i64 lat, .int .i64 lon, .int .i64 iso], .int .i64 24]) (by simp [results, Try.results14, go_sem, fc0, fc1]) rfl ⟨rfl, st.lo⟩
          · rw [if_neg (fun k => hn k.2)] at HE
            have m1 : decide ((sn : Int) - 1 < nd) = false := decide_eq_false hn
            clear hn
            subst HE
            rw [if_pos rfl] at HS
            subst HT
            subst HS
            have st := Bs.in3 W 28 [.int .i64 mode, .bool armed, .bool home, .int .i64 lat, .int .i64 lon, .int .i64 iso] 36 [.int .i64 5, .int .i64 2, .float .f64 cla, .float .f64 clo] 28 [.int .i64 0, .bool false, .bool false, .int .i64 0, .int .i64 0, .int .i64 0]
            go_enter Try.func14, Try.ntmps14
            have fc0 := (st.box 2 rfl).f6; have fc1 := (st.box 1 rfl).f4; have fc2 := (st.box 0 rfl).f6
            go_wp2_with fail
            clear fc0 fc1 fc2
            replace st := st.name; obtain ⟨V1, hV, st⟩ := st; rw [hV]; clear hV
            replace st := st.drew
            refine rh (fun w => C6 w (W.heap.size) (.int .i64 mode) (.bool armed) (.bool home) (.int .i64 lat) (.int .i64 lon) (.int .i64 iso)) ((st.box 2 rfl).c6) fun hHeld => ?_
            generalize V1.drew = V2 at *
            refine tq 0 ?_; try simp only [Act.put, l1, l2, l3, l4, l5, l6]
            refine tq 1 ?_; try simp only [Act.put, l1, l2, l3, l4, l5, l6]
            refine tq 2 ?_; try simp only [Act.put, l1, l2, l3, l4, l5, l6]
            refine tq 3 ?_; try simp only [Act.put, l1, l2, l3, l4, l5, l6]
            refine tq 4 ?_; try simp only [Act.put, l1, l2, l3, l4, l5, l6]
            refine tq 5 ?_; try simp only [Act.put, l1, l2, l3, l4, l5, l6]
            refine tq 6 ?_; try simp only [Act.put, l1, l2, l3, l4, l5, l6]
            refine tq 9 ?_; try simp only [Act.put, l1, l2, l3, l4, l5, l6]
            refine tq 10 ?_; try simp only [Act.put, l1, l2, l3, l4, l5, l6]
            refine rd 7 fun K hK => ?_
            have fc0 := (st.box 2 rfl).f6; have fc1 := (st.box 0 rfl).f6
            go_simp
            refine callB st (TS.out _) ?_; clear st fc0 fc1; intro V3 st
            have fc0 := (st.box 2 rfl).f6; have fc1 := (st.box 0 rfl).f6
            try go_wp2_with fail
            clear hHeld fc0 fc1; refine hK.out _ _ ((st.box 2 rfl).c6) fun hHeld => ?_; clear hK K
            try simp only [Act.put, l1, l2, l3, l4, l5, l6]
            refine tq 8 ?_; try simp only [Act.put, l1, l2, l3, l4, l5, l6]
            refine rd 11 fun K hK => ?_
            have fc0 := (st.box 2 rfl).f6; have fc1 := (st.box 0 rfl).f6
            go_simp
            refine callQ (TN.out _) ?_
            try go_wp2_with fail
            clear hHeld fc0 fc1; refine hK.out _ _ ((st.box 2 rfl).c6) fun hHeld => ?_; clear hK K
            try simp only [Act.put, l1, l2, l3, l4, l5, l6]
            refine tq 12 ?_; try simp only [Act.put, l1, l2, l3, l4, l5, l6]
            refine tq 13 ?_; try simp only [Act.put, l1, l2, l3, l4, l5, l6]
            refine wpAnyH_done (by kernel_rfl) ?_ _; clear hHeld
            have fc0 := (st.box 2 rfl).f6; have fc1 := (st.box 0 rfl).f6
            go_wp2
            clear fc0 fc1
            replace st := (st.set 2 5 (.int .i64 v) rfl).name; obtain ⟨V4, hV, st⟩ := st; rw [hV]; clear hV
            have fc0 := (st.box 2 rfl).f6; have fc1 := (st.box 0 rfl).f6
            clear fc0 fc1
            replace st := st.put6 0 (.int .i64 mode) (.bool armed) (.bool home) (.int .i64 lat) (.int .i64 lon) (.int .i64 v) rfl; obtain ⟨V5, hV, st⟩ := st; rw [hV]; clear hV
            have fc0 := (st.box 2 rfl).f6; have fc1 := (st.box 0 rfl).f6
            exact bodyPost_ret (v := .tuple #[.agg #[.int .i64 mode, .bool armed, .bool home, .int .i64 lat, .int .i64 lon, .int .i64 v], .int .i64 0]) (by simp [results, Try.results14, go_sem, fc0, fc1]) rfl ⟨rfl, st.lo⟩
      · obtain ⟨b1, b2, b3⟩ := bits_iso hi 3 (by decide)
        rw [show ((2 : Int) ^ 3) = 8 from rfl] at b1 b2 b3
        rw [show (3 : Int).toNat = 3 from rfl] at HT HE
        clear hi
        generalize orI iso 3 = v at *
        cases hb : isIso iso 3 with
        | true =>
          rw [hb] at b1 HE
          rw [if_neg (fun k => by cases k.1)] at HE
          rw [Bool.not_true] at b1
          clear hb b3 hsle hnle
          subst HE
          rw [if_pos rfl] at HS
          subst HT
          subst HS
          have st := Bs.in3 W 28 [.int .i64 mode, .bool armed, .bool home, .int .i64 lat, .int .i64 lon, .int .i64 iso] 36 [.int .i64 5, .int .i64 3, .float .f64 cla, .float .f64 clo] 28 [.int .i64 0, .bool false, .bool false, .int .i64 0, .int .i64 0, .int .i64 0]
          go_enter Try.func14, Try.ntmps14
          have fc0 := (st.box 2 rfl).f6; have fc1 := (st.box 1 rfl).f4; have fc2 := (st.box 0 rfl).f6
          go_wp2_with fail
          clear fc0 fc1 fc2
          replace st := st.name; obtain ⟨V1, hV, st⟩ := st; rw [hV]; clear hV
          replace st := st.drew
          refine rh (fun w => C6 w (W.heap.size) (.int .i64 mode) (.bool armed) (.bool home) (.int .i64 lat) (.int .i64 lon) (.int .i64 iso)) ((st.box 2 rfl).c6) fun hHeld => ?_
          generalize V1.drew = V2 at *
          refine tq 0 ?_; try simp only [Act.put, l1, l2, l3, l4, l5, l6]
          refine tq 1 ?_; try simp only [Act.put, l1, l2, l3, l4, l5, l6]
          refine tq 2 ?_; try simp only [Act.put, l1, l2, l3, l4, l5, l6]
          refine tq 3 ?_; try simp only [Act.put, l1, l2, l3, l4, l5, l6]
          refine tq 4 ?_; try simp only [Act.put, l1, l2, l3, l4, l5, l6]
          refine tq 5 ?_; try simp only [Act.put, l1, l2, l3, l4, l5, l6]
          refine sk 6 ?_; try simp only [Act.put, l1, l2, l3, l4, l5, l6]
          refine sk 7 ?_; try simp only [Act.put, l1, l2, l3, l4, l5, l6]
          refine sk 8 ?_; try simp only [Act.put, l1, l2, l3, l4, l5, l6]
          refine sk 9 ?_; try simp only [Act.put, l1, l2, l3, l4, l5, l6]
          refine sk 10 ?_; try simp only [Act.put, l1, l2, l3, l4, l5, l6]
          refine sk 11 ?_; try simp only [Act.put, l1, l2, l3, l4, l5, l6]
          refine sk 12 ?_; try simp only [Act.put, l1, l2, l3, l4, l5, l6]
          refine tq 13 ?_; try simp only [Act.put, l1, l2, l3, l4, l5, l6]
          refine wpAnyH_done (by kernel_rfl) ?_ _; clear hHeld
          have fc0 := (st.box 2 rfl).f6; have fc1 := (st.box 0 rfl).f6
          go_wp2
          clear fc0 fc1
          replace st := (st.set 2 5 (.int .i64 v) rfl).name; obtain ⟨V3, hV, st⟩ := st; rw [hV]; clear hV
          have fc0 := (st.box 2 rfl).f6; have fc1 := (st.box 0 rfl).f6
          clear fc0 fc1
          replace st := st.put6 0 (.int .i64 mode) (.bool armed) (.bool home) (.int .i64 lat) (.int .i64 lon) (.int .i64 v) rfl; obtain ⟨V4, hV, st⟩ := st; rw [hV]; clear hV
          have fc0 := (st.box 2 rfl).f6; have fc1 := (st.box 0 rfl).f6
          exact bodyPost_ret (v := .tuple #[.agg #[.int .i64 mode, .bool armed, .bool home, .int .i64 lat, .int .i64 lon, .int .i64 v], .int .i64 0]) (by simp [results, Try.results14, go_sem, fc0, fc1]) rfl ⟨rfl, st.lo⟩
        | false =>
          rw [hb] at b1 HE
          rw [Bool.not_false] at b1
          clear hb b3
          have w1 : IntKind.i64.wrap ((sn : Int) - 1) = (sn : Int) - 1 := IntWalk.i64_in _ (by omega)
          have w2 : wrap64 ((sn : Int) - 1) = (sn : Int) - 1 := IntWalk.wrap64_in _ (by omega)
          clear hsle hnle
          by_cases hn : (sn : Int) - 1 < nd
          · rw [if_pos ⟨rfl, hn⟩] at HE
            have m1 : decide ((sn : Int) - 1 < nd) = true := decide_eq_true hn
            clear hn
            subst HE
            rw [if_neg (by decide)] at HS
            clear HT
            subst HS
            have st := Bs.in3 W 28 [.int .i64 mode, .bool armed, .bool home, .int .i64 lat, .int .i64 lon, .int .i64 iso] 36 [.int .i64 5, .int .i64 3, .float .f64 cla, .float .f64 clo] 28 [.int .i64 0, .bool false, .bool false, .int .i64 0, .int .i64 0, .int .i64 0]
            go_enter Try.func14, Try.ntmps14
            have fc0 := (st.box 2 rfl).f6; have fc1 := (st.box 1 rfl).f4; have fc2 := (st.box 0 rfl).f6
            go_wp2_with fail
            clear fc0 fc1 fc2
            replace st := st.name; obtain ⟨V1, hV, st⟩ := st; rw [hV]; clear hV
            replace st := st.drew
            refine rh (fun w => C6 w (W.heap.size) (.int .i64 mode) (.bool armed) (.bool home) (.int .i64 lat) (.int .i64 lon) (.int .i64 iso)) ((st.box 2 rfl).c6) fun hHeld => ?_
            generalize V1.drew = V2 at *
            refine tq 0 ?_; try simp only [Act.put, l1, l2, l3, l4, l5, l6]
            refine tq 1 ?_; try simp only [Act.put, l1, l2, l3, l4, l5, l6]
            refine tq 2 ?_; try simp only [Act.put, l1, l2, l3, l4, l5, l6]
            refine tq 3 ?_; try simp only [Act.put, l1, l2, l3, l4, l5, l6]
            refine tq 4 ?_; try simp only [Act.put, l1, l2, l3, l4, l5, l6]
            refine tq 5 ?_; try simp only [Act.put, l1, l2, l3, l4, l5, l6]
            refine tq 6 ?_; try simp only [Act.put, l1, l2, l3, l4, l5, l6]
            refine tq 9 ?_; try simp only [Act.put, l1, l2, l3, l4, l5, l6]
            refine tq 10 ?_; try simp only [Act.put, l1, l2, l3, l4, l5, l6]
            refine rd 7 fun K hK => ?_
            have fc0 := (st.box 2 rfl).f6; have fc1 := (st.box 0 rfl).f6
            go_simp
            refine callB st (TS.out _) ?_; clear st fc0 fc1; intro V3 st
            have fc0 := (st.box 2 rfl).f6; have fc1 := (st.box 0 rfl).f6
            try go_wp2_with fail
            clear hHeld fc0 fc1; refine hK.out _ _ ((st.box 2 rfl).c6) fun hHeld => ?_; clear hK K
            try simp only [Act.put, l1, l2, l3, l4, l5, l6]
            refine tq 8 ?_; try simp only [Act.put, l1, l2, l3, l4, l5, l6]
            refine rd 11 fun K hK => ?_
            have fc0 := (st.box 2 rfl).f6; have fc1 := (st.box 0 rfl).f6
            go_simp
            refine callQ (TN.out _) ?_
            try go_wp2_with fail
            clear hHeld fc0 fc1; refine hK.out _ _ ((st.box 2 rfl).c6) fun hHeld => ?_; clear hK K
            try simp only [Act.put, l1, l2, l3, l4, l5, l6]
            refine tq 12 ?_; try simp only [Act.put, l1, l2, l3, l4, l5, l6]
            refine tq 13 ?_; try simp only [Act.put, l1, l2, l3, l4, l5, l6]
            refine wpAnyH_done (by kernel_rfl) ?_ _; clear hHeld
            have fc0 := (st.box 2 rfl).f6; have fc1 := (st.box 0 rfl).f6
            go_wp2
            clear fc0 fc1
            replace st := st.put6 0 (.int .i64 mode) (.bool armed) (.bool home) (.int .i64 lat) (.int .i64 lon) (.int .i64 iso) rfl; obtain ⟨V4, hV, st⟩ := st; rw [hV]; clear hV
            have fc0 := (st.box 2 rfl).f6; have fc1 := (st.box 0 rfl).f6
            exact bodyPost_ret (v := .tuple #[.agg #[.int .i64 mode, .bool armed, .bool home, .int .i64 lat, .int .i64 lon, .int .i64 iso], .int .i64 24]) (by simp [results, Try.results14, go_sem, fc0, fc1]) rfl ⟨rfl, st.lo⟩
          · rw [if_neg (fun k => hn k.2)] at HE
            have m1 : decide ((sn : Int) - 1 < nd) = false := decide_eq_false hn
            clear hn
            subst HE
            rw [if_pos rfl] at HS
            subst HT
            subst HS
            have st := Bs.in3 W 28 [.int .i64 mode, .bool armed, .bool home, .int .i64 lat, .int .i64 lon, .int .i64 iso] 36 [.int .i64 5, .int .i64 3, .float .f64 cla, .float .f64 clo] 28 [.int .i64 0, .bool false, .bool false, .int .i64 0, .int .i64 0, .int .i64 0]
            go_enter Try.func14, Try.ntmps14
            have fc0 := (st.box 2 rfl).f6; have fc1 := (st.box 1 rfl).f4; have fc2 := (st.box 0 rfl).f6
            go_wp2_with fail
            clear fc0 fc1 fc2
            replace st := st.name; obtain ⟨V1, hV, st⟩ := st; rw [hV]; clear hV
            replace st := st.drew
            refine rh (fun w => C6 w (W.heap.size) (.int .i64 mode) (.bool armed) (.bool home) (.int .i64 lat) (.int .i64 lon) (.int .i64 iso)) ((st.box 2 rfl).c6) fun hHeld => ?_
            generalize V1.drew = V2 at *
            refine tq 0 ?_; try simp only [Act.put, l1, l2, l3, l4, l5, l6]
            refine tq 1 ?_; try simp only [Act.put, l1, l2, l3, l4, l5, l6]
            refine tq 2 ?_; try simp only [Act.put, l1, l2, l3, l4, l5, l6]
            refine tq 3 ?_; try simp only [Act.put, l1, l2, l3, l4, l5, l6]
            refine tq 4 ?_; try simp only [Act.put, l1, l2, l3, l4, l5, l6]
            refine tq 5 ?_; try simp only [Act.put, l1, l2, l3, l4, l5, l6]
            refine tq 6 ?_; try simp only [Act.put, l1, l2, l3, l4, l5, l6]
            refine tq 9 ?_; try simp only [Act.put, l1, l2, l3, l4, l5, l6]
            refine tq 10 ?_; try simp only [Act.put, l1, l2, l3, l4, l5, l6]
            refine rd 7 fun K hK => ?_
            have fc0 := (st.box 2 rfl).f6; have fc1 := (st.box 0 rfl).f6
            go_simp
            refine callB st (TS.out _) ?_; clear st fc0 fc1; intro V3 st
            have fc0 := (st.box 2 rfl).f6; have fc1 := (st.box 0 rfl).f6
            try go_wp2_with fail
            clear hHeld fc0 fc1; refine hK.out _ _ ((st.box 2 rfl).c6) fun hHeld => ?_; clear hK K
            try simp only [Act.put, l1, l2, l3, l4, l5, l6]
            refine tq 8 ?_; try simp only [Act.put, l1, l2, l3, l4, l5, l6]
            refine rd 11 fun K hK => ?_
            have fc0 := (st.box 2 rfl).f6; have fc1 := (st.box 0 rfl).f6
            go_simp
            refine callQ (TN.out _) ?_
            try go_wp2_with fail
            clear hHeld fc0 fc1; refine hK.out _ _ ((st.box 2 rfl).c6) fun hHeld => ?_; clear hK K
            try simp only [Act.put, l1, l2, l3, l4, l5, l6]
            refine tq 12 ?_; try simp only [Act.put, l1, l2, l3, l4, l5, l6]
            refine tq 13 ?_; try simp only [Act.put, l1, l2, l3, l4, l5, l6]
            refine wpAnyH_done (by kernel_rfl) ?_ _; clear hHeld
            have fc0 := (st.box 2 rfl).f6; have fc1 := (st.box 0 rfl).f6
            go_wp2
            clear fc0 fc1
            replace st := (st.set 2 5 (.int .i64 v) rfl).name; obtain ⟨V4, hV, st⟩ := st; rw [hV]; clear hV
            have fc0 := (st.box 2 rfl).f6; have fc1 := (st.box 0 rfl).f6
            clear fc0 fc1
            replace st := st.put6 0 (.int .i64 mode) (.bool armed) (.bool home) (.int .i64 lat) (.int .i64 lon) (.int .i64 v) rfl; obtain ⟨V5, hV, st⟩ := st; rw [hV]; clear hV
            have fc0 := (st.box 2 rfl).f6; have fc1 := (st.box 0 rfl).f6
            exact bodyPost_ret (v := .tuple #[.agg #[.int .i64 mode, .bool armed, .bool home, .int .i64 lat, .int .i64 lon, .int .i64 v], .int .i64 0]) (by simp [results, Try.results14, go_sem, fc0, fc1]) rfl ⟨rfl, st.lo⟩
  · by_cases k6 : c.kind = 6
    · rw [if_neg k5, if_pos k6] at HE
      rw [if_neg k5] at HT
      clear k1 k2 k3 k4 k5
      cases hs : sensor c.n with
      | false =>
        rw [hs, if_pos rfl] at HE
        have hn : c.n < 0 ∨ 3 < c.n := by unfold sensor at hs; have := of_decide_eq_false hs; omega
        clear hs hi TS TN
        obtain ⟨mode, armed, home, lat, lon, iso⟩ := s
        obtain ⟨kd, n, cla, clo⟩ := c
        dsimp only at *
        subst HE
        rw [if_neg (by decide)] at HS
        clear HT
        subst HS
        subst k6
        rcases hn with hn | hn
        · have st := Bs.in3 W 28 [.int .i64 mode, .bool armed, .bool home, .int .i64 lat, .int .i64 lon, .int .i64 iso] 36 [.int .i64 6, .int .i64 n, .float .f64 cla, .float .f64 clo] 28 [.int .i64 0, .bool false, .bool false, .int .i64 0, .int .i64 0, .int .i64 0]
          go_enter Try.func14, Try.ntmps14
          have fc0 := (st.box 2 rfl).f6; have fc1 := (st.box 1 rfl).f4; have fc2 := (st.box 0 rfl).f6
          go_wp2
          clear fc0 fc1 fc2
          clear st; have st := Bs.in3 W 28 [.int .i64 mode, .bool armed, .bool home, .int .i64 lat, .int .i64 lon, .int .i64 iso] 36 [.int .i64 6, .int .i64 n, .float .f64 cla, .float .f64 clo] 28 [.int .i64 mode, .bool armed, .bool home, .int .i64 lat, .int .i64 lon, .int .i64 iso]
          have fc0 := (st.box 0 rfl).f6
          exact bodyPost_ret (v := .tuple #[.agg #[.int .i64 mode, .bool armed, .bool home, .int .i64 lat, .int .i64 lon, .int .i64 iso], .int .i64 1]) (by simp [results, Try.results14, go_sem, fc0]) rfl ⟨rfl, st.lo⟩
        · have h0 : ¬ n < 0 := by omega
          have h1 : n > 3 := by omega
          have st := Bs.in3 W 28 [.int .i64 mode, .bool armed, .bool home, .int .i64 lat, .int .i64 lon, .int .i64 iso] 36 [.int .i64 6, .int .i64 n, .float .f64 cla, .float .f64 clo] 28 [.int .i64 0, .bool false, .bool false, .int .i64 0, .int .i64 0, .int .i64 0]
          go_enter Try.func14, Try.ntmps14
          have fc0 := (st.box 2 rfl).f6; have fc1 := (st.box 1 rfl).f4; have fc2 := (st.box 0 rfl).f6
          go_wp2
          clear fc0 fc1 fc2
          clear st; have st := Bs.in3 W 28 [.int .i64 mode, .bool armed, .bool home, .int .i64 lat, .int .i64 lon, .int .i64 iso] 36 [.int .i64 6, .int .i64 n, .float .f64 cla, .float .f64 clo] 28 [.int .i64 mode, .bool armed, .bool home, .int .i64 lat, .int .i64 lon, .int .i64 iso]
          have fc0 := (st.box 0 rfl).f6
          exact bodyPost_ret (v := .tuple #[.agg #[.int .i64 mode, .bool armed, .bool home, .int .i64 lat, .int .i64 lon, .int .i64 iso], .int .i64 1]) (by simp [results, Try.results14, go_sem, fc0]) rfl ⟨rfl, st.lo⟩
      | true =>
        have hn := sensor_cases hs
        rw [hs, if_neg (by decide)] at HE
        clear hs
        have hsle := sound_le s.iso
        have hnle := needs_le s.mode
        generalize soundN s.iso = sn at *
        generalize needsN s.mode = nd at *
        obtain ⟨mode, armed, home, lat, lon, iso⟩ := s
        obtain ⟨kd, n, cla, clo⟩ := c
        dsimp only at *
        subst k6
        rcases hn with rfl | rfl | rfl | rfl
        · obtain ⟨b1, b2, b3⟩ := bits_iso hi 0 (by decide)
          rw [show ((2 : Int) ^ 0) = 1 from rfl] at b1 b2 b3
          rw [show (0 : Int).toNat = 0 from rfl] at HT
          clear hi
          subst HE
          rw [if_pos rfl] at HS
          subst HT
          subst HS
          generalize clI iso 0 = v at *
          clear b1 b2 hsle hnle
          have st := Bs.in3 W 28 [.int .i64 mode, .bool armed, .bool home, .int .i64 lat, .int .i64 lon, .int .i64 iso] 36 [.int .i64 6, .int .i64 0, .float .f64 cla, .float .f64 clo] 28 [.int .i64 0, .bool false, .bool false, .int .i64 0, .int .i64 0, .int .i64 0]
          go_enter Try.func14, Try.ntmps14
          have fc0 := (st.box 2 rfl).f6; have fc1 := (st.box 1 rfl).f4; have fc2 := (st.box 0 rfl).f6
          go_wp2
          clear fc0 fc1 fc2
          clear st; have st := Bs.in3 W 28 [.int .i64 mode, .bool armed, .bool home, .int .i64 lat, .int .i64 lon, .int .i64 v] 36 [.int .i64 6, .int .i64 0, .float .f64 cla, .float .f64 clo] 28 [.int .i64 mode, .bool armed, .bool home, .int .i64 lat, .int .i64 lon, .int .i64 v]
          have fc0 := (st.box 0 rfl).f6
          exact bodyPost_ret (v := .tuple #[.agg #[.int .i64 mode, .bool armed, .bool home, .int .i64 lat, .int .i64 lon, .int .i64 v], .int .i64 0]) (by simp [results, Try.results14, go_sem, fc0]) rfl ⟨rfl, st.lo⟩
        · obtain ⟨b1, b2, b3⟩ := bits_iso hi 1 (by decide)
          rw [show ((2 : Int) ^ 1) = 2 from rfl] at b1 b2 b3
          rw [show (1 : Int).toNat = 1 from rfl] at HT
          clear hi
          subst HE
          rw [if_pos rfl] at HS
          subst HT
          subst HS
          generalize clI iso 1 = v at *
          clear b1 b2 hsle hnle
          have st := Bs.in3 W 28 [.int .i64 mode, .bool armed, .bool home, .int .i64 lat, .int .i64 lon, .int .i64 iso] 36 [.int .i64 6, .int .i64 1, .float .f64 cla, .float .f64 clo] 28 [.int .i64 0, .bool false, .bool false, .int .i64 0, .int .i64 0, .int .i64 0]
          go_enter Try.func14, Try.ntmps14
          have fc0 := (st.box 2 rfl).f6; have fc1 := (st.box 1 rfl).f4; have fc2 := (st.box 0 rfl).f6
          go_wp2
          clear fc0 fc1 fc2
          clear st; have st := Bs.in3 W 28 [.int .i64 mode, .bool armed, .bool home, .int .i64 lat, .int .i64 lon, .int .i64 v] 36 [.int .i64 6, .int .i64 1, .float .f64 cla, .float .f64 clo] 28 [.int .i64 mode, .bool armed, .bool home, .int .i64 lat, .int .i64 lon, .int .i64 v]
          have fc0 := (st.box 0 rfl).f6
          exact bodyPost_ret (v := .tuple #[.agg #[.int .i64 mode, .bool armed, .bool home, .int .i64 lat, .int .i64 lon, .int .i64 v], .int .i64 0]) (by simp [results, Try.results14, go_sem, fc0]) rfl ⟨rfl, st.lo⟩
        · obtain ⟨b1, b2, b3⟩ := bits_iso hi 2 (by decide)
          rw [show ((2 : Int) ^ 2) = 4 from rfl] at b1 b2 b3
          rw [show (2 : Int).toNat = 2 from rfl] at HT
          clear hi
          subst HE
          rw [if_pos rfl] at HS
          subst HT
          subst HS
          generalize clI iso 2 = v at *
          clear b1 b2 hsle hnle
          have st := Bs.in3 W 28 [.int .i64 mode, .bool armed, .bool home, .int .i64 lat, .int .i64 lon, .int .i64 iso] 36 [.int .i64 6, .int .i64 2, .float .f64 cla, .float .f64 clo] 28 [.int .i64 0, .bool false, .bool false, .int .i64 0, .int .i64 0, .int .i64 0]
          go_enter Try.func14, Try.ntmps14
          have fc0 := (st.box 2 rfl).f6; have fc1 := (st.box 1 rfl).f4; have fc2 := (st.box 0 rfl).f6
          go_wp2
          clear fc0 fc1 fc2
          clear st; have st := Bs.in3 W 28 [.int .i64 mode, .bool armed, .bool home, .int .i64 lat, .int .i64 lon, .int .i64 v] 36 [.int .i64 6, .int .i64 2, .float .f64 cla, .float .f64 clo] 28 [.int .i64 mode, .bool armed, .bool home, .int .i64 lat, .int .i64 lon, .int .i64 v]
          have fc0 := (st.box 0 rfl).f6
          exact bodyPost_ret (v := .tuple #[.agg #[.int .i64 mode, .bool armed, .bool home, .int .i64 lat, .int .i64 lon, .int .i64 v], .int .i64 0]) (by simp [results, Try.results14, go_sem, fc0]) rfl ⟨rfl, st.lo⟩
        · obtain ⟨b1, b2, b3⟩ := bits_iso hi 3 (by decide)
          rw [show ((2 : Int) ^ 3) = 8 from rfl] at b1 b2 b3
          rw [show (3 : Int).toNat = 3 from rfl] at HT
          clear hi
          subst HE
          rw [if_pos rfl] at HS
          subst HT
          subst HS
          generalize clI iso 3 = v at *
          clear b1 b2 hsle hnle
          have st := Bs.in3 W 28 [.int .i64 mode, .bool armed, .bool home, .int .i64 lat, .int .i64 lon, .int .i64 iso] 36 [.int .i64 6, .int .i64 3, .float .f64 cla, .float .f64 clo] 28 [.int .i64 0, .bool false, .bool false, .int .i64 0, .int .i64 0, .int .i64 0]
          go_enter Try.func14, Try.ntmps14
          have fc0 := (st.box 2 rfl).f6; have fc1 := (st.box 1 rfl).f4; have fc2 := (st.box 0 rfl).f6
          go_wp2
          clear fc0 fc1 fc2
          clear st; have st := Bs.in3 W 28 [.int .i64 mode, .bool armed, .bool home, .int .i64 lat, .int .i64 lon, .int .i64 v] 36 [.int .i64 6, .int .i64 3, .float .f64 cla, .float .f64 clo] 28 [.int .i64 mode, .bool armed, .bool home, .int .i64 lat, .int .i64 lon, .int .i64 v]
          have fc0 := (st.box 0 rfl).f6
          exact bodyPost_ret (v := .tuple #[.agg #[.int .i64 mode, .bool armed, .bool home, .int .i64 lat, .int .i64 lon, .int .i64 v], .int .i64 0]) (by simp [results, Try.results14, go_sem, fc0]) rfl ⟨rfl, st.lo⟩
    · rw [if_neg k5, if_neg k6] at HE
      clear hi TS TN
      obtain ⟨mode, armed, home, lat, lon, iso⟩ := s
      obtain ⟨kd, n, cla, clo⟩ := c
      dsimp only at *
      subst HE
      rw [if_neg (by decide)] at HS
      clear HT
      subst HS
      have q1 : (kd == 1) = false := beq_eq_false_iff_ne.2 k1
      have q2 : (kd == 2) = false := beq_eq_false_iff_ne.2 k2
      have q3 : (kd == 3) = false := beq_eq_false_iff_ne.2 k3
      have q4 : (kd == 4) = false := beq_eq_false_iff_ne.2 k4
      have q5 : (kd == 5) = false := beq_eq_false_iff_ne.2 k5
      have q6 : (kd == 6) = false := beq_eq_false_iff_ne.2 k6
      clear k1 k2 k3 k4 k5 k6
      have st := Bs.in3 W 28 [.int .i64 mode, .bool armed, .bool home, .int .i64 lat, .int .i64 lon, .int .i64 iso] 36 [.int .i64 kd, .int .i64 n, .float .f64 cla, .float .f64 clo] 28 [.int .i64 0, .bool false, .bool false, .int .i64 0, .int .i64 0, .int .i64 0]
      go_enter Try.func14, Try.ntmps14
      have fc0 := (st.box 2 rfl).f6; have fc1 := (st.box 1 rfl).f4; have fc2 := (st.box 0 rfl).f6
      go_wp2
      clear fc0 fc1 fc2
      clear st; have st := Bs.in3 W 28 [.int .i64 mode, .bool armed, .bool home, .int .i64 lat, .int .i64 lon, .int .i64 iso] 36 [.int .i64 kd, .int .i64 n, .float .f64 cla, .float .f64 clo] 28 [.int .i64 mode, .bool armed, .bool home, .int .i64 lat, .int .i64 lon, .int .i64 iso]
      have fc0 := (st.box 0 rfl).f6
      exact bodyPost_ret (v := .tuple #[.agg #[.int .i64 mode, .bool armed, .bool home, .int .i64 lat, .int .i64 lon, .int .i64 iso], .int .i64 1]) (by simp [results, Try.results14, go_sem, fc0]) rfl ⟨rfl, st.lo⟩

end Go.Proofs.Ytdfacpppmfoiiaa

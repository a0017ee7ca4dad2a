/- The document's own answers of layer 16 (goes, home, Delta): contracts only. -/
import Derived.Test.YtdfacpppmfoiiaaCmdFits
namespace Go.Proofs.Ytdfacpppmfoiiaa
open Go.RowKit
set_option linter.unusedVariables false
set_option linter.unusedSimpArgs false

def goS (s : St) (n : Int) : St := if goE s n = 0 then setMode s n else s

def homeS (s : St) (c : Cm) : St := if homeE c = 0 then setHome s (fixN c.lat 90) (fixN c.lon 180) else s

theorem delta_go {s : St} {c : Cm} (h : c.kind = 1) : deltaS s c = goS s c.n ∧ deltaE s c = goE s c.n := by
  have e : deltaE s c = goE s c.n := by unfold deltaE; rw [if_pos h]
  refine ⟨?_, e⟩
  unfold deltaS goS
  rw [e]
  unfold deltaT
  rw [if_pos h]
theorem delta_home {s : St} {c : Cm} (h : c.kind = 4) : deltaS s c = homeS s c ∧ deltaE s c = homeE c := by
  have n1 : ¬ c.kind = 1 := by omega
  have n2 : ¬ c.kind = 2 := by omega
  have n3 : ¬ c.kind = 3 := by omega
  have e : deltaE s c = homeE c := by unfold deltaE; rw [if_neg n1, if_neg n2, if_neg n3, if_pos h]
  refine ⟨?_, e⟩
  unfold deltaS homeS
  rw [e]
  unfold deltaT
  rw [if_neg n1, if_neg n2, if_neg n3, if_pos h]
theorem bits_and16 : ∀ v : Fin 16, ∀ k : Fin 4, (bits .and .i64 (v.val : Int) (2 ^ k.val) == 0) = !isIso (v.val : Int) k.val := by decide
theorem bits_or16 : ∀ v : Fin 16, ∀ k : Fin 4, bits .or .i64 (v.val : Int) (2 ^ k.val) = orI (v.val : Int) k.val := by decide
theorem bits_clr16 : ∀ v : Fin 16, ∀ k : Fin 4, bits .andNot .i64 (v.val : Int) (2 ^ k.val) = clI (v.val : Int) k.val := by decide
theorem bits_iso {v : Int} (h : 0 ≤ v ∧ v ≤ 15) (k : Nat) (hk : k < 4) : (bits .and .i64 v (2 ^ k) == 0) = !isIso v k ∧ bits .or .i64 v (2 ^ k) = orI v k ∧ bits .andNot .i64 v (2 ^ k) = clI v k := by
  obtain ⟨a, rfl⟩ := iso_cases h
  exact ⟨bits_and16 a ⟨k, hk⟩, bits_or16 a ⟨k, hk⟩, bits_clr16 a ⟨k, hk⟩⟩

set_option maxRecDepth 100000 in
set_option maxHeartbeats 8000000 in
theorem ref16goes (s : St) (n : Int) (W : World) : Gives Try.prog 25 #[.agg #[.int .i64 s.mode, .bool s.armed, .bool s.home, .int .i64 s.lat, .int .i64 s.lon, .int .i64 s.iso], .int .i64 n] W (.tuple #[.agg #[.int .i64 (goS s n).mode, .bool (goS s n).armed, .bool (goS s n).home, .int .i64 (goS s n).lat, .int .i64 (goS s n).lon, .int .i64 (goS s n).iso], .int .i64 (goE s n)]) := by
  have HE : goE s n = (if wayB s.mode n = false then 20 else if s.armed = false ∧ n ≠ 0 then 22 else if s.armed = true ∧ n = 0 then 21 else if homeB n = true ∧ s.home = false then 23 else if (soundN s.iso : Int) < needsN n then 24 else 0) := rfl
  have HS : goS s n = if goE s n = 0 then setMode s n else s := rfl
  have TW := Lib.hid (fun (V : World) => ref15Way s.mode n V)
  have TH := Lib.hid (fun (V : World) => ref15Home n V)
  have TN := Lib.hid (fun (V : World) => ref15Needs n V)
  have TS := Lib.hid (fun (V : World) => ref14Sound s V)
  generalize goE s n = E at *
  generalize goS s n = u at *
  generalize wayB s.mode n = gw at *
  generalize homeB n = hb at *
  generalize needsN n = nd at *
  generalize soundN s.iso = sn at *
  obtain ⟨mode, armed, home, lat, lon, iso⟩ := s
  dsimp only at *
  cases gw with
  | false =>
    rw [if_pos rfl] at HE
    subst HE
    rw [if_neg (by decide)] at HS
    subst HS
    have st := Bs.in2 W 28 [.int .i64 mode, .bool armed, .bool home, .int .i64 lat, .int .i64 lon, .int .i64 iso] 28 [.int .i64 0, .bool false, .bool false, .int .i64 0, .int .i64 0, .int .i64 0]
    go_enter Try.func25, Try.ntmps25
    have fc0 := (st.box 1 rfl).f6; have fc1 := (st.box 0 rfl).f6
    go_wp2_with fail; refine callQ (TW.out _) ?_
    clear fc0 fc1
    replace st := st.name; obtain ⟨V1, hV, st⟩ := st; rw [hV]; clear hV
    have fc0 := (st.box 1 rfl).f6; have fc1 := (st.box 0 rfl).f6
    go_wp2
    clear fc0 fc1
    replace st := st.put6 0 (.int .i64 mode) (.bool armed) (.bool home) (.int .i64 lat) (.int .i64 lon) (.int .i64 iso) rfl; obtain ⟨V2, hV, st⟩ := st; rw [hV]; clear hV
    have fc0 := (st.box 1 rfl).f6; have fc1 := (st.box 0 rfl).f6
    exact bodyPost_ret (v := .tuple #[.agg #[.int .i64 mode, .bool armed, .bool home, .int .i64 lat, .int .i64 lon, .int .i64 iso], .int .i64 20]) (by simp [results, Try.results25, go_sem, fc0, fc1]) rfl ⟨rfl, st.lo⟩
  | true =>
    rw [if_neg (by decide)] at HE
    cases armed with
    | false =>
      by_cases h0 : n = 0
      · subst h0
        rw [if_neg (fun k => k.2 rfl), if_neg (fun k => by cases k.1)] at HE
        cases hb with
        | true =>
          cases home with
          | false =>
            rw [if_pos ⟨rfl, rfl⟩] at HE
            subst HE
            rw [if_neg (by decide)] at HS
            subst HS
            have st := Bs.in2 W 28 [.int .i64 mode, .bool false, .bool false, .int .i64 lat, .int .i64 lon, .int .i64 iso] 28 [.int .i64 0, .bool false, .bool false, .int .i64 0, .int .i64 0, .int .i64 0]
            go_enter Try.func25, Try.ntmps25
            have fc0 := (st.box 1 rfl).f6; have fc1 := (st.box 0 rfl).f6
            go_wp2_with fail; refine callQ (TW.out _) ?_
            clear fc0 fc1
            replace st := st.name; obtain ⟨V1, hV, st⟩ := st; rw [hV]; clear hV
            have fc0 := (st.box 1 rfl).f6; have fc1 := (st.box 0 rfl).f6
            go_wp2_with fail; refine callQ (TH.out _) ?_
            go_wp2
            clear fc0 fc1
            replace st := st.put6 0 (.int .i64 mode) (.bool false) (.bool false) (.int .i64 lat) (.int .i64 lon) (.int .i64 iso) rfl; obtain ⟨V2, hV, st⟩ := st; rw [hV]; clear hV
            have fc0 := (st.box 1 rfl).f6; have fc1 := (st.box 0 rfl).f6
            exact bodyPost_ret (v := .tuple #[.agg #[.int .i64 mode, .bool false, .bool false, .int .i64 lat, .int .i64 lon, .int .i64 iso], .int .i64 23]) (by simp [results, Try.results25, go_sem, fc0, fc1]) rfl ⟨rfl, st.lo⟩
          | true =>
            rw [if_neg (fun k => by cases k.2)] at HE
            by_cases hn : (sn : Int) < nd
            · rw [if_pos hn] at HE
              have m1 : decide ((sn : Int) < nd) = true := decide_eq_true hn
              clear hn
              subst HE
              rw [if_neg (by decide)] at HS
              subst HS
              have st := Bs.in2 W 28 [.int .i64 mode, .bool false, .bool true, .int .i64 lat, .int .i64 lon, .int .i64 iso] 28 [.int .i64 0, .bool false, .bool false, .int .i64 0, .int .i64 0, .int .i64 0]
              go_enter Try.func25, Try.ntmps25
              have fc0 := (st.box 1 rfl).f6; have fc1 := (st.box 0 rfl).f6
              go_wp2_with fail; refine callQ (TW.out _) ?_
              clear fc0 fc1
              replace st := st.name; obtain ⟨V1, hV, st⟩ := st; rw [hV]; clear hV
              have fc0 := (st.box 1 rfl).f6; have fc1 := (st.box 0 rfl).f6
              go_wp2_with fail; refine callQ (TH.out _) ?_
              go_wp2_with fail; refine callB st (TS.out _) ?_; clear st fc0 fc1; intro V2 st
              have fc0 := (st.box 1 rfl).f6; have fc1 := (st.box 0 rfl).f6
              go_wp2_with fail; refine callQ (TN.out _) ?_
              go_wp2
              clear fc0 fc1
              replace st := st.put6 0 (.int .i64 mode) (.bool false) (.bool true) (.int .i64 lat) (.int .i64 lon) (.int .i64 iso) rfl; obtain ⟨V3, hV, st⟩ := st; rw [hV]; clear hV
              have fc0 := (st.box 1 rfl).f6; have fc1 := (st.box 0 rfl).f6
              exact bodyPost_ret (v := .tuple #[.agg #[.int .i64 mode, .bool false, .bool true, .int .i64 lat, .int .i64 lon, .int .i64 iso], .int .i64 24]) (by simp [results, Try.results25, go_sem, fc0, fc1]) rfl ⟨rfl, st.lo⟩
            · rw [if_neg hn] at HE
              have m1 : decide ((sn : Int) < nd) = false := decide_eq_false hn
              clear hn
              subst HE
              rw [if_pos rfl] at HS
              subst HS
              have st := Bs.in2 W 28 [.int .i64 mode, .bool false, .bool true, .int .i64 lat, .int .i64 lon, .int .i64 iso] 28 [.int .i64 0, .bool false, .bool false, .int .i64 0, .int .i64 0, .int .i64 0]
              go_enter Try.func25, Try.ntmps25
              have fc0 := (st.box 1 rfl).f6; have fc1 := (st.box 0 rfl).f6
              go_wp2_with fail; refine callQ (TW.out _) ?_
              clear fc0 fc1
              replace st := st.name; obtain ⟨V1, hV, st⟩ := st; rw [hV]; clear hV
              have fc0 := (st.box 1 rfl).f6; have fc1 := (st.box 0 rfl).f6
              go_wp2_with fail; refine callQ (TH.out _) ?_
              go_wp2_with fail; refine callB st (TS.out _) ?_; clear st fc0 fc1; intro V2 st
              have fc0 := (st.box 1 rfl).f6; have fc1 := (st.box 0 rfl).f6
              go_wp2_with fail; refine callQ (TN.out _) ?_
              go_wp2
              clear fc0 fc1
              replace st := (st.set 1 0 (.int .i64 0) rfl).name; obtain ⟨V3, hV, st⟩ := st; rw [hV]; clear hV
              have fc0 := (st.box 1 rfl).f6; have fc1 := (st.box 0 rfl).f6
              clear fc0 fc1
              replace st := st.put6 0 (.int .i64 0) (.bool false) (.bool true) (.int .i64 lat) (.int .i64 lon) (.int .i64 iso) rfl; obtain ⟨V4, hV, st⟩ := st; rw [hV]; clear hV
              have fc0 := (st.box 1 rfl).f6; have fc1 := (st.box 0 rfl).f6
              exact bodyPost_ret (v := .tuple #[.agg #[.int .i64 0, .bool false, .bool true, .int .i64 lat, .int .i64 lon, .int .i64 iso], .int .i64 0]) (by simp [results, Try.results25, go_sem, fc0, fc1]) rfl ⟨rfl, st.lo⟩
        | false =>
          rw [if_neg (fun k => by cases k.1)] at HE
          by_cases hn : (sn : Int) < nd
          · rw [if_pos hn] at HE
            have m1 : decide ((sn : Int) < nd) = true := decide_eq_true hn
            clear hn
            subst HE
            rw [if_neg (by decide)] at HS
            subst HS
            have st := Bs.in2 W 28 [.int .i64 mode, .bool false, .bool home, .int .i64 lat, .int .i64 lon, .int .i64 iso] 28 [.int .i64 0, .bool false, .bool false, .int .i64 0, .int .i64 0, .int .i64 0]
            go_enter Try.func25, Try.ntmps25
            have fc0 := (st.box 1 rfl).f6; have fc1 := (st.box 0 rfl).f6
            go_wp2_with fail; refine callQ (TW.out _) ?_
            clear fc0 fc1
            replace st := st.name; obtain ⟨V1, hV, st⟩ := st; rw [hV]; clear hV
            have fc0 := (st.box 1 rfl).f6; have fc1 := (st.box 0 rfl).f6
            go_wp2_with fail; refine callQ (TH.out _) ?_
            go_wp2_with fail; refine callB st (TS.out _) ?_; clear st fc0 fc1; intro V2 st
            have fc0 := (st.box 1 rfl).f6; have fc1 := (st.box 0 rfl).f6
            go_wp2_with fail; refine callQ (TN.out _) ?_
            go_wp2
            clear fc0 fc1
            replace st := st.put6 0 (.int .i64 mode) (.bool false) (.bool home) (.int .i64 lat) (.int .i64 lon) (.int .i64 iso) rfl; obtain ⟨V3, hV, st⟩ := st; rw [hV]; clear hV
            have fc0 := (st.box 1 rfl).f6; have fc1 := (st.box 0 rfl).f6
            exact bodyPost_ret (v := .tuple #[.agg #[.int .i64 mode, .bool false, .bool home, .int .i64 lat, .int .i64 lon, .int .i64 iso], .int .i64 24]) (by simp [results, Try.results25, go_sem, fc0, fc1]) rfl ⟨rfl, st.lo⟩
          · rw [if_neg hn] at HE
            have m1 : decide ((sn : Int) < nd) = false := decide_eq_false hn
            clear hn
            subst HE
            rw [if_pos rfl] at HS
            subst HS
            have st := Bs.in2 W 28 [.int .i64 mode, .bool false, .bool home, .int .i64 lat, .int .i64 lon, .int .i64 iso] 28 [.int .i64 0, .bool false, .bool false, .int .i64 0, .int .i64 0, .int .i64 0]
            go_enter Try.func25, Try.ntmps25
            have fc0 := (st.box 1 rfl).f6; have fc1 := (st.box 0 rfl).f6
            go_wp2_with fail; refine callQ (TW.out _) ?_
            clear fc0 fc1
            replace st := st.name; obtain ⟨V1, hV, st⟩ := st; rw [hV]; clear hV
            have fc0 := (st.box 1 rfl).f6; have fc1 := (st.box 0 rfl).f6
            go_wp2_with fail; refine callQ (TH.out _) ?_
            go_wp2_with fail; refine callB st (TS.out _) ?_; clear st fc0 fc1; intro V2 st
            have fc0 := (st.box 1 rfl).f6; have fc1 := (st.box 0 rfl).f6
            go_wp2_with fail; refine callQ (TN.out _) ?_
            go_wp2
            clear fc0 fc1
            replace st := (st.set 1 0 (.int .i64 0) rfl).name; obtain ⟨V3, hV, st⟩ := st; rw [hV]; clear hV
            have fc0 := (st.box 1 rfl).f6; have fc1 := (st.box 0 rfl).f6
            clear fc0 fc1
            replace st := st.put6 0 (.int .i64 0) (.bool false) (.bool home) (.int .i64 lat) (.int .i64 lon) (.int .i64 iso) rfl; obtain ⟨V4, hV, st⟩ := st; rw [hV]; clear hV
            have fc0 := (st.box 1 rfl).f6; have fc1 := (st.box 0 rfl).f6
            exact bodyPost_ret (v := .tuple #[.agg #[.int .i64 0, .bool false, .bool home, .int .i64 lat, .int .i64 lon, .int .i64 iso], .int .i64 0]) (by simp [results, Try.results25, go_sem, fc0, fc1]) rfl ⟨rfl, st.lo⟩
      · rw [if_pos ⟨rfl, h0⟩] at HE
        have n1 : (n == 0) = false := beq_eq_false_iff_ne.2 h0
        have n2 : (n != 0) = true := bne_iff_ne.2 h0
        clear h0
        subst HE
        rw [if_neg (by decide)] at HS
        subst HS
        have st := Bs.in2 W 28 [.int .i64 mode, .bool false, .bool home, .int .i64 lat, .int .i64 lon, .int .i64 iso] 28 [.int .i64 0, .bool false, .bool false, .int .i64 0, .int .i64 0, .int .i64 0]
        go_enter Try.func25, Try.ntmps25
        have fc0 := (st.box 1 rfl).f6; have fc1 := (st.box 0 rfl).f6
        go_wp2_with fail; refine callQ (TW.out _) ?_
        clear fc0 fc1
        replace st := st.name; obtain ⟨V1, hV, st⟩ := st; rw [hV]; clear hV
        have fc0 := (st.box 1 rfl).f6; have fc1 := (st.box 0 rfl).f6
        go_wp2
        clear fc0 fc1
        replace st := st.put6 0 (.int .i64 mode) (.bool false) (.bool home) (.int .i64 lat) (.int .i64 lon) (.int .i64 iso) rfl; obtain ⟨V2, hV, st⟩ := st; rw [hV]; clear hV
        have fc0 := (st.box 1 rfl).f6; have fc1 := (st.box 0 rfl).f6
        exact bodyPost_ret (v := .tuple #[.agg #[.int .i64 mode, .bool false, .bool home, .int .i64 lat, .int .i64 lon, .int .i64 iso], .int .i64 22]) (by simp [results, Try.results25, go_sem, fc0, fc1]) rfl ⟨rfl, st.lo⟩
    | true =>
      rw [if_neg (fun k => by cases k.1)] at HE
      by_cases h0 : n = 0
      · subst h0
        rw [if_pos ⟨rfl, rfl⟩] at HE
        subst HE
        rw [if_neg (by decide)] at HS
        subst HS
        have st := Bs.in2 W 28 [.int .i64 mode, .bool true, .bool home, .int .i64 lat, .int .i64 lon, .int .i64 iso] 28 [.int .i64 0, .bool false, .bool false, .int .i64 0, .int .i64 0, .int .i64 0]
        go_enter Try.func25, Try.ntmps25
        have fc0 := (st.box 1 rfl).f6; have fc1 := (st.box 0 rfl).f6
        go_wp2_with fail; refine callQ (TW.out _) ?_
        clear fc0 fc1
        replace st := st.name; obtain ⟨V1, hV, st⟩ := st; rw [hV]; clear hV
        have fc0 := (st.box 1 rfl).f6; have fc1 := (st.box 0 rfl).f6
        go_wp2
        clear fc0 fc1
        replace st := st.put6 0 (.int .i64 mode) (.bool true) (.bool home) (.int .i64 lat) (.int .i64 lon) (.int .i64 iso) rfl; obtain ⟨V2, hV, st⟩ := st; rw [hV]; clear hV
        have fc0 := (st.box 1 rfl).f6; have fc1 := (st.box 0 rfl).f6
        exact bodyPost_ret (v := .tuple #[.agg #[.int .i64 mode, .bool true, .bool home, .int .i64 lat, .int .i64 lon, .int .i64 iso], .int .i64 21]) (by simp [results, Try.results25, go_sem, fc0, fc1]) rfl ⟨rfl, st.lo⟩
      · rw [if_neg (fun k => h0 k.2)] at HE
        have n1 : (n == 0) = false := beq_eq_false_iff_ne.2 h0
        have n2 : (n != 0) = true := bne_iff_ne.2 h0
        clear h0
        cases hb with
        | true =>
          cases home with
          | false =>
            rw [if_pos ⟨rfl, rfl⟩] at HE
            subst HE
            rw [if_neg (by decide)] at HS
            subst HS
            have st := Bs.in2 W 28 [.int .i64 mode, .bool true, .bool false, .int .i64 lat, .int .i64 lon, .int .i64 iso] 28 [.int .i64 0, .bool false, .bool false, .int .i64 0, .int .i64 0, .int .i64 0]
            go_enter Try.func25, Try.ntmps25
            have fc0 := (st.box 1 rfl).f6; have fc1 := (st.box 0 rfl).f6
            go_wp2_with fail; refine callQ (TW.out _) ?_
            clear fc0 fc1
            replace st := st.name; obtain ⟨V1, hV, st⟩ := st; rw [hV]; clear hV
            have fc0 := (st.box 1 rfl).f6; have fc1 := (st.box 0 rfl).f6
            go_wp2_with fail; refine callQ (TH.out _) ?_
            go_wp2
            clear fc0 fc1
            replace st := st.put6 0 (.int .i64 mode) (.bool true) (.bool false) (.int .i64 lat) (.int .i64 lon) (.int .i64 iso) rfl; obtain ⟨V2, hV, st⟩ := st; rw [hV]; clear hV
            have fc0 := (st.box 1 rfl).f6; have fc1 := (st.box 0 rfl).f6
            exact bodyPost_ret (v := .tuple #[.agg #[.int .i64 mode, .bool true, .bool false, .int .i64 lat, .int .i64 lon, .int .i64 iso], .int .i64 23]) (by simp [results, Try.results25, go_sem, fc0, fc1]) rfl ⟨rfl, st.lo⟩
          | true =>
            rw [if_neg (fun k => by cases k.2)] at HE
            by_cases hn : (sn : Int) < nd
            · rw [if_pos hn] at HE
              have m1 : decide ((sn : Int) < nd) = true := decide_eq_true hn
              clear hn
              subst HE
              rw [if_neg (by decide)] at HS
              subst HS
              have st := Bs.in2 W 28 [.int .i64 mode, .bool true, .bool true, .int .i64 lat, .int .i64 lon, .int .i64 iso] 28 [.int .i64 0, .bool false, .bool false, .int .i64 0, .int .i64 0, .int .i64 0]
              go_enter Try.func25, Try.ntmps25
              have fc0 := (st.box 1 rfl).f6; have fc1 := (st.box 0 rfl).f6
              go_wp2_with fail; refine callQ (TW.out _) ?_
              clear fc0 fc1
              replace st := st.name; obtain ⟨V1, hV, st⟩ := st; rw [hV]; clear hV
              have fc0 := (st.box 1 rfl).f6; have fc1 := (st.box 0 rfl).f6
              go_wp2_with fail; refine callQ (TH.out _) ?_
              go_wp2_with fail; refine callB st (TS.out _) ?_; clear st fc0 fc1; intro V2 st
              have fc0 := (st.box 1 rfl).f6; have fc1 := (st.box 0 rfl).f6
              go_wp2_with fail; refine callQ (TN.out _) ?_
              go_wp2
              clear fc0 fc1
              replace st := st.put6 0 (.int .i64 mode) (.bool true) (.bool true) (.int .i64 lat) (.int .i64 lon) (.int .i64 iso) rfl; obtain ⟨V3, hV, st⟩ := st; rw [hV]; clear hV
              have fc0 := (st.box 1 rfl).f6; have fc1 := (st.box 0 rfl).f6
              exact bodyPost_ret (v := .tuple #[.agg #[.int .i64 mode, .bool true, .bool true, .int .i64 lat, .int .i64 lon, .int .i64 iso], .int .i64 24]) (by simp [results, Try.results25, go_sem, fc0, fc1]) rfl ⟨rfl, st.lo⟩
            · rw [if_neg hn] at HE
              have m1 : decide ((sn : Int) < nd) = false := decide_eq_false hn
              clear hn
              subst HE
              rw [if_pos rfl] at HS
              subst HS
              have st := Bs.in2 W 28 [.int .i64 mode, .bool true, .bool true, .int .i64 lat, .int .i64 lon, .int .i64 iso] 28 [.int .i64 0, .bool false, .bool false, .int .i64 0, .int .i64 0, .int .i64 0]
              go_enter Try.func25, Try.ntmps25
              have fc0 := (st.box 1 rfl).f6; have fc1 := (st.box 0 rfl).f6
              go_wp2_with fail; refine callQ (TW.out _) ?_
              clear fc0 fc1
              replace st := st.name; obtain ⟨V1, hV, st⟩ := st; rw [hV]; clear hV
              have fc0 := (st.box 1 rfl).f6; have fc1 := (st.box 0 rfl).f6
              go_wp2_with fail; refine callQ (TH.out _) ?_
              go_wp2_with fail; refine callB st (TS.out _) ?_; clear st fc0 fc1; intro V2 st
              have fc0 := (st.box 1 rfl).f6; have fc1 := (st.box 0 rfl).f6
              go_wp2_with fail; refine callQ (TN.out _) ?_
              go_wp2
              clear fc0 fc1
              replace st := (st.set 1 0 (.int .i64 n) rfl).name; obtain ⟨V3, hV, st⟩ := st; rw [hV]; clear hV
              have fc0 := (st.box 1 rfl).f6; have fc1 := (st.box 0 rfl).f6
              clear fc0 fc1
              replace st := st.put6 0 (.int .i64 n) (.bool true) (.bool true) (.int .i64 lat) (.int .i64 lon) (.int .i64 iso) rfl; obtain ⟨V4, hV, st⟩ := st; rw [hV]; clear hV
              have fc0 := (st.box 1 rfl).f6; have fc1 := (st.box 0 rfl).f6
              exact bodyPost_ret (v := .tuple #[.agg #[.int .i64 n, .bool true, .bool true, .int .i64 lat, .int .i64 lon, .int .i64 iso], .int .i64 0]) (by simp [results, Try.results25, go_sem, fc0, fc1]) rfl ⟨rfl, st.lo⟩
        | false =>
          rw [if_neg (fun k => by cases k.1)] at HE
          by_cases hn : (sn : Int) < nd
          · rw [if_pos hn] at HE
            have m1 : decide ((sn : Int) < nd) = true := decide_eq_true hn
            clear hn
            subst HE
            rw [if_neg (by decide)] at HS
            subst HS
            have st := Bs.in2 W 28 [.int .i64 mode, .bool true, .bool home, .int .i64 lat, .int .i64 lon, .int .i64 iso] 28 [.int .i64 0, .bool false, .bool false, .int .i64 0, .int .i64 0, .int .i64 0]
            go_enter Try.func25, Try.ntmps25
            have fc0 := (st.box 1 rfl).f6; have fc1 := (st.box 0 rfl).f6
            go_wp2_with fail; refine callQ (TW.out _) ?_
            clear fc0 fc1
            replace st := st.name; obtain ⟨V1, hV, st⟩ := st; rw [hV]; clear hV
            have fc0 := (st.box 1 rfl).f6; have fc1 := (st.box 0 rfl).f6
            go_wp2_with fail; refine callQ (TH.out _) ?_
            go_wp2_with fail; refine callB st (TS.out _) ?_; clear st fc0 fc1; intro V2 st
            have fc0 := (st.box 1 rfl).f6; have fc1 := (st.box 0 rfl).f6
            go_wp2_with fail; refine callQ (TN.out _) ?_
            go_wp2
            clear fc0 fc1
            replace st := st.put6 0 (.int .i64 mode) (.bool true) (.bool home) (.int .i64 lat) (.int .i64 lon) (.int .i64 iso) rfl; obtain ⟨V3, hV, st⟩ := st; rw [hV]; clear hV
            have fc0 := (st.box 1 rfl).f6; have fc1 := (st.box 0 rfl).f6
            exact bodyPost_ret (v := .tuple #[.agg #[.int .i64 mode, .bool true, .bool home, .int .i64 lat, .int .i64 lon, .int .i64 iso], .int .i64 24]) (by simp [results, Try.results25, go_sem, fc0, fc1]) rfl ⟨rfl, st.lo⟩
          · rw [if_neg hn] at HE
            have m1 : decide ((sn : Int) < nd) = false := decide_eq_false hn
            clear hn
            subst HE
            rw [if_pos rfl] at HS
            subst HS
            have st := Bs.in2 W 28 [.int .i64 mode, .bool true, .bool home, .int .i64 lat, .int .i64 lon, .int .i64 iso] 28 [.int .i64 0, .bool false, .bool false, .int .i64 0, .int .i64 0, .int .i64 0]
            go_enter Try.func25, Try.ntmps25
            have fc0 := (st.box 1 rfl).f6; have fc1 := (st.box 0 rfl).f6
            go_wp2_with fail; refine callQ (TW.out _) ?_
            clear fc0 fc1
            replace st := st.name; obtain ⟨V1, hV, st⟩ := st; rw [hV]; clear hV
            have fc0 := (st.box 1 rfl).f6; have fc1 := (st.box 0 rfl).f6
            go_wp2_with fail; refine callQ (TH.out _) ?_
            go_wp2_with fail; refine callB st (TS.out _) ?_; clear st fc0 fc1; intro V2 st
            have fc0 := (st.box 1 rfl).f6; have fc1 := (st.box 0 rfl).f6
            go_wp2_with fail; refine callQ (TN.out _) ?_
            go_wp2
            clear fc0 fc1
            replace st := (st.set 1 0 (.int .i64 n) rfl).name; obtain ⟨V3, hV, st⟩ := st; rw [hV]; clear hV
            have fc0 := (st.box 1 rfl).f6; have fc1 := (st.box 0 rfl).f6
            clear fc0 fc1
            replace st := st.put6 0 (.int .i64 n) (.bool true) (.bool home) (.int .i64 lat) (.int .i64 lon) (.int .i64 iso) rfl; obtain ⟨V4, hV, st⟩ := st; rw [hV]; clear hV
            have fc0 := (st.box 1 rfl).f6; have fc1 := (st.box 0 rfl).f6
            exact bodyPost_ret (v := .tuple #[.agg #[.int .i64 n, .bool true, .bool home, .int .i64 lat, .int .i64 lon, .int .i64 iso], .int .i64 0]) (by simp [results, Try.results25, go_sem, fc0, fc1]) rfl ⟨rfl, st.lo⟩

set_option maxRecDepth 100000 in
set_option maxHeartbeats 8000000 in
theorem ref16home (s : St) (c : Cm) (W : World) : Gives Try.prog 26 #[.agg #[.int .i64 s.mode, .bool s.armed, .bool s.home, .int .i64 s.lat, .int .i64 s.lon, .int .i64 s.iso], .agg #[.int .i64 c.kind, .int .i64 c.n, .float .f64 c.lat, .float .f64 c.lon]] W (.tuple #[.agg #[.int .i64 (homeS s c).mode, .bool (homeS s c).armed, .bool (homeS s c).home, .int .i64 (homeS s c).lat, .int .i64 (homeS s c).lon, .int .i64 (homeS s c).iso], .int .i64 (homeE c)]) := by
  have HE : homeE c = (if fixE c.lat 90 ≠ 0 then fixE c.lat 90 else fixE c.lon 180) := rfl
  have HS : homeS s c = if homeE c = 0 then setHome s (fixN c.lat 90) (fixN c.lon 180) else s := rfl
  have T1 := Lib.hid (fun (V : World) => ref13Fix c.lat 90 V)
  have T2 := Lib.hid (fun (V : World) => ref13Fix c.lon 180 V)
  generalize homeE c = E at *
  generalize homeS s c = u at *
  generalize fixN c.lat 90 = a at *
  generalize fixE c.lat 90 = ea at *
  generalize fixN c.lon 180 = o at *
  generalize fixE c.lon 180 = eo at *
  obtain ⟨mode, armed, home, lat, lon, iso⟩ := s
  dsimp only at *
  obtain ⟨kd, n, cla, clo⟩ := c
  dsimp only at *
  by_cases h1 : ea = 0
  · rw [if_neg (fun k => k h1)] at HE
    subst h1
    by_cases h2 : eo = 0
    · subst h2
      subst HE
      rw [if_pos rfl] at HS
      subst HS
      have st := Bs.in3 W 28 [.int .i64 mode, .bool armed, .bool home, .int .i64 lat, .int .i64 lon, .int .i64 iso] 36 [.int .i64 kd, .int .i64 n, .float .f64 cla, .float .f64 clo] 28 [.int .i64 0, .bool false, .bool false, .int .i64 0, .int .i64 0, .int .i64 0]
      go_enter Try.func26, Try.ntmps26
      have fc0 := (st.box 2 rfl).f6; have fc1 := (st.box 1 rfl).f4; have fc2 := (st.box 0 rfl).f6
      go_wp2_with fail; refine callQ (T1.out _) ?_
      clear fc0 fc1 fc2
      replace st := st.name; obtain ⟨V1, hV, st⟩ := st; rw [hV]; clear hV
      have fc0 := (st.box 2 rfl).f6; have fc1 := (st.box 1 rfl).f4; have fc2 := (st.box 0 rfl).f6
      go_wp2_with fail; refine callQ (T2.out _) ?_
      go_wp2
      clear fc0 fc1 fc2
      replace st := (((st.set 2 2 (.bool true) rfl).set 2 3 (.int .i64 a) rfl).set 2 4 (.int .i64 o) rfl).name; obtain ⟨V2, hV, st⟩ := st; rw [hV]; clear hV
      have fc0 := (st.box 2 rfl).f6; have fc1 := (st.box 1 rfl).f4; have fc2 := (st.box 0 rfl).f6
      clear fc0 fc1 fc2
      replace st := st.put6 0 (.int .i64 mode) (.bool armed) (.bool true) (.int .i64 a) (.int .i64 o) (.int .i64 iso) rfl; obtain ⟨V3, hV, st⟩ := st; rw [hV]; clear hV
      have fc0 := (st.box 2 rfl).f6; have fc1 := (st.box 1 rfl).f4; have fc2 := (st.box 0 rfl).f6
      exact bodyPost_ret (v := .tuple #[.agg #[.int .i64 mode, .bool armed, .bool true, .int .i64 a, .int .i64 o, .int .i64 iso], .int .i64 0]) (by simp [results, Try.results26, go_sem, fc0, fc1, fc2]) rfl ⟨rfl, st.lo⟩
    · rw [HE] at HS ⊢
      rw [if_neg h2] at HS
      subst HS
      have n1 : (eo != 0) = true := bne_iff_ne.2 h2
      have n2 : (eo == 0) = false := beq_eq_false_iff_ne.2 h2
      clear h2 HE
      have st := Bs.in3 W 28 [.int .i64 mode, .bool armed, .bool home, .int .i64 lat, .int .i64 lon, .int .i64 iso] 36 [.int .i64 kd, .int .i64 n, .float .f64 cla, .float .f64 clo] 28 [.int .i64 0, .bool false, .bool false, .int .i64 0, .int .i64 0, .int .i64 0]
      go_enter Try.func26, Try.ntmps26
      have fc0 := (st.box 2 rfl).f6; have fc1 := (st.box 1 rfl).f4; have fc2 := (st.box 0 rfl).f6
      go_wp2_with fail; refine callQ (T1.out _) ?_
      clear fc0 fc1 fc2
      replace st := st.name; obtain ⟨V1, hV, st⟩ := st; rw [hV]; clear hV
      have fc0 := (st.box 2 rfl).f6; have fc1 := (st.box 1 rfl).f4; have fc2 := (st.box 0 rfl).f6
      go_wp2_with fail; refine callQ (T2.out _) ?_
      go_wp2
      clear fc0 fc1 fc2
      replace st := st.put6 0 (.int .i64 mode) (.bool armed) (.bool home) (.int .i64 lat) (.int .i64 lon) (.int .i64 iso) rfl; obtain ⟨V2, hV, st⟩ := st; rw [hV]; clear hV
      have fc0 := (st.box 2 rfl).f6; have fc1 := (st.box 1 rfl).f4; have fc2 := (st.box 0 rfl).f6
      exact bodyPost_ret (v := .tuple #[.agg #[.int .i64 mode, .bool armed, .bool home, .int .i64 lat, .int .i64 lon, .int .i64 iso], .int .i64 eo]) (by simp [results, Try.results26, go_sem, fc0, fc1, fc2]) rfl ⟨rfl, st.lo⟩
  · rw [if_pos h1] at HE
    rw [HE] at HS ⊢
    rw [if_neg h1] at HS
    subst HS
    have n1 : (ea != 0) = true := bne_iff_ne.2 h1
    have n2 : (ea == 0) = false := beq_eq_false_iff_ne.2 h1
    clear h1 HE
    have st := Bs.in3 W 28 [.int .i64 mode, .bool armed, .bool home, .int .i64 lat, .int .i64 lon, .int .i64 iso] 36 [.int .i64 kd, .int .i64 n, .float .f64 cla, .float .f64 clo] 28 [.int .i64 0, .bool false, .bool false, .int .i64 0, .int .i64 0, .int .i64 0]
    go_enter Try.func26, Try.ntmps26
    have fc0 := (st.box 2 rfl).f6; have fc1 := (st.box 1 rfl).f4; have fc2 := (st.box 0 rfl).f6
    go_wp2_with fail; refine callQ (T1.out _) ?_
    clear fc0 fc1 fc2
    replace st := st.name; obtain ⟨V1, hV, st⟩ := st; rw [hV]; clear hV
    have fc0 := (st.box 2 rfl).f6; have fc1 := (st.box 1 rfl).f4; have fc2 := (st.box 0 rfl).f6
    go_wp2
    clear fc0 fc1 fc2
    replace st := st.put6 0 (.int .i64 mode) (.bool armed) (.bool home) (.int .i64 lat) (.int .i64 lon) (.int .i64 iso) rfl; obtain ⟨V2, hV, st⟩ := st; rw [hV]; clear hV
    have fc0 := (st.box 2 rfl).f6; have fc1 := (st.box 1 rfl).f4; have fc2 := (st.box 0 rfl).f6
    exact bodyPost_ret (v := .tuple #[.agg #[.int .i64 mode, .bool armed, .bool home, .int .i64 lat, .int .i64 lon, .int .i64 iso], .int .i64 ea]) (by simp [results, Try.results26, go_sem, fc0, fc1, fc2]) rfl ⟨rfl, st.lo⟩

end Go.Proofs.Ytdfacpppmfoiiaa

/- What a pilot asks, and what becomes of it, as the document says it; plain laws, no statement is proved here. -/
import Derived.Test.YtdfacpppmfoiiaaStatePlain
import Derived.Test.YtdfacpppmfoiiaaTablePlain
import Derived.Test.YtdfacpppmfoiiaaFixedPlain
namespace Go.Proofs.Ytdfacpppmfoiiaa
set_option linter.unusedVariables false

structure Cm where
  kind : Int
  n : Int
  lat : Nat
  lon : Nat
structure Cm.ok (c : Cm) : Prop where
  nk : -9223372036854775808 ≤ c.kind ∧ c.kind ≤ 9223372036854775807
  nn : -9223372036854775808 ≤ c.n ∧ c.n ≤ 9223372036854775807
  na : c.lat < 2 ^ 64
  no : c.lon < 2 ^ 64
def fitsB (s : St) : Bool := (s.armed == flyB s.mode) && (s.home || !homeB s.mode) && decide (needsN s.mode ≤ (soundN s.iso : Int))
def goE (s : St) (n : Int) : Int :=
  if wayB s.mode n = false then 20 else if s.armed = false ∧ n ≠ 0 then 22 else if s.armed = true ∧ n = 0 then 21 else if homeB n = true ∧ s.home = false then 23 else if (soundN s.iso : Int) < needsN n then 24 else 0
def setMode (s : St) (n : Int) : St := ⟨n, s.armed, s.home, s.lat, s.lon, s.iso⟩
def setArmed (s : St) (b : Bool) (n : Int) : St := ⟨n, b, s.home, s.lat, s.lon, s.iso⟩
def setIso (s : St) (v : Int) : St := ⟨s.mode, s.armed, s.home, s.lat, s.lon, v⟩
def setHome (s : St) (a o : Int) : St := ⟨s.mode, s.armed, true, a, o, s.iso⟩
def homeE (c : Cm) : Int := if fixE c.lat 90 ≠ 0 then fixE c.lat 90 else fixE c.lon 180
def isIso (v : Int) (k : Nat) : Bool := decide (v / 2 ^ k % 2 = 1)
def orI (v : Int) (k : Nat) : Int := if isIso v k then v else v + 2 ^ k
def clI (v : Int) (k : Nat) : Int := if isIso v k then v - 2 ^ k else v
def sensor (n : Int) : Bool := decide (0 ≤ n ∧ n ≤ 3)
def isoE (s : St) (n : Int) : Int := if sensor n = false then 1 else if isIso s.iso n.toNat = false ∧ (soundN s.iso : Int) - 1 < needsN s.mode then 24 else 0
def deltaE (s : St) (c : Cm) : Int :=
  if c.kind = 1 then goE s c.n else if c.kind = 2 then (if s.armed = true then 21 else if (soundN s.iso : Int) < 2 then 24 else 0)
  else if c.kind = 3 then (if s.armed = false then 22 else if s.mode ≠ 1 ∧ s.mode ≠ 5 then 20 else 0) else if c.kind = 4 then homeE c
  else if c.kind = 5 then isoE s c.n else if c.kind = 6 then (if sensor c.n = false then 1 else 0) else 1
def deltaT (s : St) (c : Cm) : St :=
  if c.kind = 1 then setMode s c.n else if c.kind = 2 then setArmed s true 1 else if c.kind = 3 then setArmed s false 0 else if c.kind = 4 then setHome s (fixN c.lat 90) (fixN c.lon 180)
  else if c.kind = 5 then setIso s (orI s.iso c.n.toNat) else setIso s (clI s.iso c.n.toNat)
def deltaS (s : St) (c : Cm) : St := if deltaE s c = 0 then deltaT s c else s

theorem delta_err {s : St} {c : Cm} (h : deltaE s c ≠ 0) : deltaS s c = s := if_neg h
theorem delta_done {s : St} {c : Cm} (h : deltaE s c = 0) : deltaS s c = deltaT s c := if_pos h
theorem sensor_cases {n : Int} (h : sensor n = true) : n = 0 ∨ n = 1 ∨ n = 2 ∨ n = 3 := by
  unfold sensor at h; have := of_decide_eq_true h; omega
theorem iso_cases {v : Int} (h : 0 ≤ v ∧ v ≤ 15) : ∃ k : Fin 16, v = (k.val : Int) := ⟨⟨v.toNat, by omega⟩, by show v = (v.toNat : Int); omega⟩
/-- All that bits of a state's sensors want, at once. -/
theorem iso_all : ∀ v : Fin 16, ∀ k : Fin 4,
    (0 ≤ orI (v.val : Int) k.val ∧ orI (v.val : Int) k.val ≤ 15) ∧ (0 ≤ clI (v.val : Int) k.val ∧ clI (v.val : Int) k.val ≤ 15) ∧
    (isIso (v.val : Int) k.val = false → soundN (orI (v.val : Int) k.val) + 1 = soundN (v.val : Int)) ∧ (isIso (v.val : Int) k.val = true → orI (v.val : Int) k.val = (v.val : Int) ∧ soundN (clI (v.val : Int) k.val) = soundN (v.val : Int) + 1) ∧
    (isIso (v.val : Int) k.val = false → clI (v.val : Int) k.val = (v.val : Int)) ∧ isIso (orI (v.val : Int) k.val) k.val = true ∧ isIso (clI (v.val : Int) k.val) k.val = false ∧
    clI (orI (v.val : Int) k.val) k.val = clI (v.val : Int) k.val ∧ orI (orI (v.val : Int) k.val) k.val = orI (v.val : Int) k.val ∧ soundN (v.val : Int) ≤ 4 := by decide
structure IsoAll (v : Int) (k : Nat) : Prop where
  o : 0 ≤ orI v k ∧ orI v k ≤ 15
  c : 0 ≤ clI v k ∧ clI v k ≤ 15
  on : isIso v k = false → soundN (orI v k) + 1 = soundN v
  of : isIso v k = true → orI v k = v ∧ soundN (clI v k) = soundN v + 1
  cn : isIso v k = false → clI v k = v
  io : isIso (orI v k) k = true
  ic : isIso (clI v k) k = false
  co : clI (orI v k) k = clI v k
  oo : orI (orI v k) k = orI v k
  le : soundN v ≤ 4
theorem iso_of {v : Int} (h : 0 ≤ v ∧ v ≤ 15) {n : Int} (hn : sensor n = true) : IsoAll v n.toNat := by
  obtain ⟨a, rfl⟩ := iso_cases h
  have hk : n.toNat < 4 := by rcases sensor_cases hn with rfl | rfl | rfl | rfl <;> decide
  obtain ⟨o, c, on, of, cn, io, ic, co, oo, le⟩ := iso_all a ⟨n.toNat, hk⟩
  exact ⟨o, c, on, of, cn, io, ic, co, oo, le⟩
theorem goE_ok {s : St} {n : Int} (h : goE s n = 0) : wayB s.mode n = true ∧ (s.armed = true ∨ n = 0) ∧ (s.armed = false ∨ n ≠ 0) ∧ (homeB n = false ∨ s.home = true) ∧ needsN n ≤ (soundN s.iso : Int) := by
  unfold goE at h
  split at h
  · cases h
  rename_i h1
  split at h
  · cases h
  rename_i h2
  split at h
  · cases h
  rename_i h3
  split at h
  · cases h
  rename_i h4
  split at h
  · cases h
  rename_i h5
  refine ⟨by simpa using h1, ?_, ?_, ?_, by omega⟩
  · cases ha : s.armed with
    | true => exact Or.inl rfl
    | false => exact Or.inr (Classical.byContradiction fun k => h2 ⟨ha, k⟩)
  · cases ha : s.armed with
    | true => exact Or.inr (fun k => h3 ⟨ha, k⟩)
    | false => exact Or.inl rfl
  · cases hh : s.home with
    | true => exact Or.inr rfl
    | false => exact Or.inl (by cases hb : homeB n with | true => exact absurd ⟨hb, hh⟩ h4 | false => rfl)
theorem goE_mk {s : St} {n : Int} (h1 : wayB s.mode n = true) (h2 : s.armed = true ∨ n = 0) (h3 : s.armed = false ∨ n ≠ 0) (h4 : homeB n = false ∨ s.home = true) (h5 : needsN n ≤ (soundN s.iso : Int)) : goE s n = 0 := by
  unfold goE
  rw [if_neg (by rw [h1]; decide), if_neg (fun k => h2.elim (fun x => by rw [k.1] at x; cases x) (fun x => k.2 x)), if_neg (fun k => h3.elim (fun x => by rw [k.1] at x; cases x) (fun x => x k.2)), if_neg (fun k => h4.elim (fun x => by rw [k.1] at x; cases x) (fun x => by rw [k.2] at x; cases x)), if_neg (by omega)]
theorem way_to {a b : Int} (h : wayB a b = true) : modeB a = true ∧ modeB b = true := by
  unfold wayB at h
  split at h
  · rename_i h1; exact h1
  · cases h
theorem fits_iff {s : St} : fitsB s = true ↔ s.armed = flyB s.mode ∧ (s.home = true ∨ homeB s.mode = false) ∧ needsN s.mode ≤ (soundN s.iso : Int) := by
  unfold fitsB
  simp [Bool.and_eq_true, and_assoc]
theorem fly_iff {n : Int} (h : modeB n = true) : flyB n = decide (n ≠ 0) := by unfold flyB; rw [h]; rfl
theorem mode_in {n : Int} (h : modeB n = true) : 0 ≤ n ∧ n ≤ 5 := by unfold modeB at h; exact of_decide_eq_true h
theorem mode_of {n : Int} (h : 0 ≤ n ∧ n ≤ 5) : modeB n = true := decide_eq_true h
theorem needs_le (m : Int) : needsN m ≤ 3 ∧ 0 ≤ needsN m := by
  unfold needsN
  split
  · omega
  split
  · omega
  split <;> omega
theorem homeE_zero {c : Cm} : homeE c = 0 ↔ fixE c.lat 90 = 0 ∧ fixE c.lon 180 = 0 := by
  unfold homeE
  by_cases h : fixE c.lat 90 = 0
  · rw [if_neg (fun k => k h)]; exact ⟨fun k => ⟨h, k⟩, fun k => k.2⟩
  · rw [if_pos h]; exact ⟨fun k => absurd k h, fun k => absurd k.1 h⟩
theorem fix_range {x : Nat} {most : Int} (h : fixE x most = 0) : -(8192 * most) ≤ fixN x most ∧ fixN x most ≤ 8192 * most := by
  obtain ⟨h1, h2, h3⟩ := fixE_ok h
  rw [h3]
  obtain ⟨m0, m1, a, b⟩ := h2
  exact fixV_range m0 a b
/-- What stays: a state that fits stays legal, and fits. -/
theorem delta_fits {s : St} (c : Cm) (hl : Legal s) (hf : fitsB s = true) : Legal (deltaS s c) ∧ fitsB (deltaS s c) = true := by
  by_cases h : deltaE s c = 0
  · rw [delta_done h]
    obtain ⟨f1, f2, f3⟩ := fits_iff.1 hf
    unfold deltaE at h
    unfold deltaT
    by_cases k1 : c.kind = 1
    · rw [if_pos k1] at h ⊢
      obtain ⟨g1, g2, g3, g4, g5⟩ := goE_ok h
      have hm := (way_to g1).2
      refine ⟨⟨mode_in hm, hl.i, hl.a, hl.o, hl.h⟩, fits_iff.2 ⟨?_, g4.symm, g5⟩⟩
      show s.armed = flyB c.n
      rw [fly_iff hm]
      by_cases h0 : c.n = 0
      · rw [decide_eq_false (fun k => k h0)]; exact g3.elim id (fun k => absurd h0 k)
      · rw [decide_eq_true h0]; exact g2.elim id (fun k => absurd k h0)
    · rw [if_neg k1] at h ⊢
      by_cases k2 : c.kind = 2
      · rw [if_pos k2] at h ⊢
        split at h
        · cases h
        split at h
        · cases h
        exact ⟨⟨by show (0 : Int) ≤ 1 ∧ (1 : Int) ≤ 5; decide, hl.i, hl.a, hl.o, hl.h⟩, fits_iff.2 ⟨by show true = flyB 1; decide, Or.inr (by show homeB 1 = false; decide), by show needsN 1 ≤ (soundN s.iso : Int); rw [show needsN 1 = 1 from by decide]; omega⟩⟩
      · rw [if_neg k2] at h ⊢
        by_cases k3 : c.kind = 3
        · rw [if_pos k3] at h ⊢
          exact ⟨⟨by show (0 : Int) ≤ 0 ∧ (0 : Int) ≤ 5; decide, hl.i, hl.a, hl.o, hl.h⟩, fits_iff.2 ⟨by show false = flyB 0; decide, Or.inr (by show homeB 0 = false; decide), by show needsN 0 ≤ (soundN s.iso : Int); rw [show needsN 0 = 0 from by decide]; omega⟩⟩
        · rw [if_neg k3] at h ⊢
          by_cases k4 : c.kind = 4
          · rw [if_pos k4] at h ⊢
            obtain ⟨e1, e2⟩ := homeE_zero.1 h
            have r1 := fix_range e1
            have r2 := fix_range e2
            exact ⟨⟨hl.m, hl.i, by show -737280 ≤ fixN c.lat 90 ∧ fixN c.lat 90 ≤ 737280; omega, by show -1474560 ≤ fixN c.lon 180 ∧ fixN c.lon 180 ≤ 1474560; omega, Or.inl rfl⟩, fits_iff.2 ⟨f1, Or.inl rfl, f3⟩⟩
          · rw [if_neg k4] at h ⊢
            by_cases k5 : c.kind = 5
            · rw [if_pos k5] at h ⊢
              unfold isoE at h
              split at h
              · cases h
              rename_i hs
              have hs2 : sensor c.n = true := by simpa using hs
              have I := iso_of hl.i hs2
              split at h
              · cases h
              rename_i hn
              refine ⟨⟨hl.m, I.o, hl.a, hl.o, hl.h⟩, fits_iff.2 ⟨f1, f2, ?_⟩⟩
              show needsN s.mode ≤ (soundN (orI s.iso c.n.toNat) : Int)
              cases hi : isIso s.iso c.n.toNat with
              | true => rw [(I.of hi).1]; exact f3
              | false =>
                have e := I.on hi
                have : ¬ (soundN s.iso : Int) - 1 < needsN s.mode := fun k => hn ⟨hi, k⟩
                omega
            · rw [if_neg k5] at h ⊢
              by_cases k6 : c.kind = 6
              · rw [if_pos k6] at h
                split at h
                · cases h
                rename_i hs
                have hs2 : sensor c.n = true := by simpa using hs
                have I := iso_of hl.i hs2
                refine ⟨⟨hl.m, I.c, hl.a, hl.o, hl.h⟩, fits_iff.2 ⟨f1, f2, ?_⟩⟩
                show needsN s.mode ≤ (soundN (clI s.iso c.n.toNat) : Int)
                cases hi : isIso s.iso c.n.toNat with
                | false => rw [I.cn hi]; exact f3
                | true => have e := (I.of hi).2; omega
              · rw [if_neg k6] at h; cases h
  · rw [delta_err h]; exact ⟨hl, hf⟩
theorem delta_legal {s : St} (c : Cm) (hl : Legal s) : Legal (deltaS s c) := by
  by_cases h : deltaE s c = 0
  · rw [delta_done h]
    unfold deltaE at h
    unfold deltaT
    by_cases k1 : c.kind = 1
    · rw [if_pos k1] at h ⊢
      exact ⟨mode_in (way_to (goE_ok h).1).2, hl.i, hl.a, hl.o, hl.h⟩
    · rw [if_neg k1] at h ⊢
      by_cases k2 : c.kind = 2
      · rw [if_pos k2]; exact ⟨by show (0 : Int) ≤ 1 ∧ (1 : Int) ≤ 5; decide, hl.i, hl.a, hl.o, hl.h⟩
      · rw [if_neg k2] at h ⊢
        by_cases k3 : c.kind = 3
        · rw [if_pos k3]; exact ⟨by show (0 : Int) ≤ 0 ∧ (0 : Int) ≤ 5; decide, hl.i, hl.a, hl.o, hl.h⟩
        · rw [if_neg k3] at h ⊢
          by_cases k4 : c.kind = 4
          · rw [if_pos k4] at h ⊢
            obtain ⟨e1, e2⟩ := homeE_zero.1 h
            have r1 := fix_range e1
            have r2 := fix_range e2
            exact ⟨hl.m, hl.i, by show -737280 ≤ fixN c.lat 90 ∧ fixN c.lat 90 ≤ 737280; omega, by show -1474560 ≤ fixN c.lon 180 ∧ fixN c.lon 180 ≤ 1474560; omega, Or.inl rfl⟩
          · rw [if_neg k4] at h ⊢
            have hs : sensor c.n = true := by
              cases hs : sensor c.n with
              | true => rfl
              | false =>
                exfalso
                unfold isoE at h
                rw [hs, if_pos rfl, if_pos rfl] at h
                split at h
                · cases h
                split at h <;> cases h
            have I := iso_of hl.i hs
            by_cases k5 : c.kind = 5
            · rw [if_pos k5]; exact ⟨hl.m, I.o, hl.a, hl.o, hl.h⟩
            · rw [if_neg k5]; exact ⟨hl.m, I.c, hl.a, hl.o, hl.h⟩
  · rw [delta_err h]; exact hl
/-- What was done can be done again (but to arm, and to disarm). -/
theorem delta_twice {s : St} {c : Cm} (hl : Legal s) (h : deltaE s c = 0) :
    deltaE (deltaT s c) c = (if c.kind = 2 then 21 else if c.kind = 3 then 22 else 0) ∧ deltaS (deltaT s c) c = deltaT s c := by
  by_cases k1 : c.kind = 1
  · have hT : deltaT s c = setMode s c.n := by unfold deltaT; rw [if_pos k1]
    have hE : ∀ u : St, deltaE u c = goE u c.n := fun u => by unfold deltaE; rw [if_pos k1]
    rw [hE] at h
    obtain ⟨g1, g2, g3, g4, g5⟩ := goE_ok h
    have hm := (way_to g1).2
    have h2 : goE (setMode s c.n) c.n = 0 := goE_mk (by show wayB c.n c.n = true; rcases mode_cases hm with e | e | e | e | e | e <;> rw [e] <;> decide) g2 g3 g4 g5
    rw [hT, hE, h2, if_neg (by omega), if_neg (by omega)]
    refine ⟨rfl, ?_⟩
    rw [delta_done (by rw [hE]; exact h2)]
    unfold deltaT; rw [if_pos k1]; rfl
  · by_cases k2 : c.kind = 2
    · have hT : deltaT s c = setArmed s true 1 := by unfold deltaT; rw [if_neg k1, if_pos k2]
      have hE : deltaE (setArmed s true 1) c = 21 := by unfold deltaE; rw [if_neg k1, if_pos k2]; rfl
      rw [hT, hE, if_pos k2]
      exact ⟨rfl, delta_err (by rw [hE]; decide)⟩
    · by_cases k3 : c.kind = 3
      · have hT : deltaT s c = setArmed s false 0 := by unfold deltaT; rw [if_neg k1, if_neg k2, if_pos k3]
        have hE : deltaE (setArmed s false 0) c = 22 := by unfold deltaE; rw [if_neg k1, if_neg k2, if_pos k3]; rfl
        rw [hT, hE, if_neg k2, if_pos k3]
        exact ⟨rfl, delta_err (by rw [hE]; decide)⟩
      · by_cases k4 : c.kind = 4
        · have hT : ∀ u : St, deltaT u c = setHome u (fixN c.lat 90) (fixN c.lon 180) := fun u => by unfold deltaT; rw [if_neg k1, if_neg k2, if_neg k3, if_pos k4]
          have hE : ∀ u : St, deltaE u c = homeE c := fun u => by unfold deltaE; rw [if_neg k1, if_neg k2, if_neg k3, if_pos k4]
          rw [hE] at h
          rw [hE, h, if_neg k2, if_neg k3]
          refine ⟨rfl, ?_⟩
          rw [delta_done (by rw [hE]; exact h), hT, hT]; rfl
        · by_cases k5 : c.kind = 5
          · have hT : ∀ u : St, deltaT u c = setIso u (orI u.iso c.n.toNat) := fun u => by unfold deltaT; rw [if_neg k1, if_neg k2, if_neg k3, if_neg k4, if_pos k5]
            have hE : ∀ u : St, deltaE u c = isoE u c.n := fun u => by unfold deltaE; rw [if_neg k1, if_neg k2, if_neg k3, if_neg k4, if_pos k5]
            rw [hE] at h
            have hs : sensor c.n = true := by
              cases hs : sensor c.n with
              | true => rfl
              | false => unfold isoE at h; rw [hs, if_pos rfl] at h; cases h
            have I := iso_of hl.i hs
            have h2 : isoE (setIso s (orI s.iso c.n.toNat)) c.n = 0 := by
              unfold isoE
              rw [if_neg (by rw [hs]; decide), if_neg (fun k => by have e : isIso (orI s.iso c.n.toNat) c.n.toNat = false := k.1; rw [I.io] at e; cases e)]
            rw [hT, hE, h2, if_neg k2, if_neg k3]
            refine ⟨rfl, ?_⟩
            rw [delta_done (by rw [hE]; exact h2), hT]
            show setIso s (orI (orI s.iso c.n.toNat) c.n.toNat) = _
            rw [I.oo]
          · have hT : ∀ u : St, deltaT u c = setIso u (clI u.iso c.n.toNat) := fun u => by unfold deltaT; rw [if_neg k1, if_neg k2, if_neg k3, if_neg k4, if_neg k5]
            have hE : ∀ u : St, deltaE u c = (if c.kind = 6 then (if sensor c.n = false then 1 else 0) else 1) := fun u => by unfold deltaE; rw [if_neg k1, if_neg k2, if_neg k3, if_neg k4, if_neg k5]
            have h6 := h
            rw [hE] at h
            have hs : sensor c.n = true := by
              cases hs : sensor c.n with
              | true => rfl
              | false => rw [hs, if_pos rfl] at h; split at h <;> cases h
            have I := iso_of hl.i hs
            have h2 : ∀ u : St, deltaE u c = 0 := fun u => by rw [hE, ← hE s]; exact h6
            rw [h2, if_neg k2, if_neg k3]
            refine ⟨rfl, ?_⟩
            rw [delta_done (h2 _), hT, hT]
            show setIso s (clI (clI s.iso c.n.toNat) c.n.toNat) = setIso s (clI s.iso c.n.toNat)
            have e : clI (clI s.iso c.n.toNat) c.n.toNat = clI s.iso c.n.toNat := by rw [clI, I.ic]; rfl
            rw [e]
end Go.Proofs.Ytdfacpppmfoiiaa

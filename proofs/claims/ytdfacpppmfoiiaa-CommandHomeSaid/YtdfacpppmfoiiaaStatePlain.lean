/- States of a flight, as numbers, as the document says it; plain laws, no statement is proved here. -/
import Derived.Test.YtdfacpppmfoiiaaFieldPlain
namespace Go.Proofs.Ytdfacpppmfoiiaa
set_option linter.unusedVariables false

structure St where
  mode : Int
  armed : Bool
  home : Bool
  lat : Int
  lon : Int
  iso : Int
structure St.ok (s : St) : Prop where
  nm : -9223372036854775808 ≤ s.mode ∧ s.mode ≤ 9223372036854775807
  na : -9223372036854775808 ≤ s.lat ∧ s.lat ≤ 9223372036854775807
  no : -9223372036854775808 ≤ s.lon ∧ s.lon ≤ 9223372036854775807
  ni : -9223372036854775808 ≤ s.iso ∧ s.iso ≤ 9223372036854775807
def St.zero : St := ⟨0, false, false, 0, 0, 0⟩
structure Legal (s : St) : Prop where
  m : 0 ≤ s.mode ∧ s.mode ≤ 5
  i : 0 ≤ s.iso ∧ s.iso ≤ 15
  a : -737280 ≤ s.lat ∧ s.lat ≤ 737280
  o : -1474560 ≤ s.lon ∧ s.lon ≤ 1474560
  h : s.home = true ∨ (s.lat = 0 ∧ s.lon = 0)
def legalB (s : St) : Bool := decide (0 ≤ s.mode ∧ s.mode ≤ 5) && decide (0 ≤ s.iso ∧ s.iso ≤ 15) && decide (-737280 ≤ s.lat ∧ s.lat ≤ 737280) && decide (-1474560 ≤ s.lon ∧ s.lon ≤ 1474560) && (s.home || (decide (s.lat = 0) && decide (s.lon = 0)))
theorem legal_iff (s : St) : legalB s = true ↔ Legal s := by
  unfold legalB
  simp only [Bool.and_eq_true, Bool.or_eq_true, decide_eq_true_eq]
  exact ⟨fun ⟨⟨⟨⟨a, b⟩, c⟩, d⟩, e⟩ => ⟨a, b, c, d, e⟩, fun ⟨a, b, c, d, e⟩ => ⟨⟨⟨⟨a, b⟩, c⟩, d⟩, e⟩⟩
theorem legal_ok {s : St} (h : Legal s) : s.ok := by
  obtain ⟨a, b, c, d, _⟩ := h
  exact ⟨by omega, by omega, by omega, by omega⟩
def firstN (s : St) : Nat := s.mode.toNat + (if s.armed then 8 else 0) + (if s.home then 16 else 0)
def low24 (v : Int) : Nat := (v % 16777216).toNat
def ext24 (n : Nat) : Int := if n < 8388608 then (n : Int) else (n : Int) - 16777216
def packL (s : St) : Nat := firstN s * 72057594037927936 + s.iso.toNat * 281474976710656 + low24 s.lat * 16777216 + low24 s.lon
def packN (s : St) : Nat := if legalB s then packL s else 0
/-- The fields that a number says. -/
def unpS (n : Nat) : St := ⟨(n / 72057594037927936 % 8 : Nat), n / 576460752303423488 % 2 == 1, n / 1152921504606846976 % 2 == 1, ext24 (n / 16777216 % 16777216), ext24 (n % 16777216), (n / 281474976710656 % 256 : Nat)⟩
def unpOk (n : Nat) : Bool := legalB (unpS n) && packN (unpS n) == n
def unpR (n : Nat) : St := if unpOk n then unpS n else St.zero
def unpE (n : Nat) : Int := if unpOk n then 0 else 13
def bitZ (v : Int) (k : Nat) : Nat := if v / 2 ^ k % 2 = 0 then 1 else 0
def soundN (v : Int) : Nat := bitZ v 0 + bitZ v 1 + bitZ v 2 + bitZ v 3

theorem low_lt (v : Int) : low24 v < 16777216 := by unfold low24; omega
theorem ext_low {v : Int} (h : -8388608 ≤ v) (h2 : v < 8388608) : ext24 (low24 v) = v := by unfold ext24 low24; split <;> omega
theorem low_ext {n : Nat} (h : n < 16777216) : low24 (ext24 n) = n := by unfold ext24 low24; split <;> omega
theorem first_lt {s : St} (h : Legal s) : firstN s < 32 ∧ firstN s % 8 = s.mode.toNat ∧ (firstN s / 8 % 2 == 1) = s.armed ∧ (firstN s / 16 % 2 == 1) = s.home := by
  obtain ⟨⟨m0, m1⟩, _⟩ := h
  obtain ⟨k, hk⟩ : ∃ k : Nat, s.mode = (k : Int) := ⟨s.mode.toNat, by omega⟩
  unfold firstN
  rw [hk, Int.toNat_natCast]
  have : k ≤ 5 := by omega
  refine ⟨by split <;> split <;> omega, by split <;> split <;> omega, ?_, ?_⟩
  · cases s.armed <;> cases s.home <;> simp <;> omega
  · cases s.armed <;> cases s.home <;> simp <;> omega
theorem packL_lt {s : St} (h : Legal s) : packL s < 2305843009213693952 := by
  have h1 := (first_lt h).1
  have h2 := h.i
  have h3 := low_lt s.lat
  have h4 := low_lt s.lon
  unfold packL
  omega
theorem packN_lt (s : St) : packN s < 2305843009213693952 := by
  unfold packN
  by_cases h : legalB s = true
  · rw [if_pos h]; exact packL_lt ((legal_iff s).1 h)
  · rw [if_neg h]; omega
theorem packN_legal {s : St} (h : Legal s) : packN s = packL s := if_pos ((legal_iff s).2 h)
theorem packN_not {s : St} (h : legalB s = false) : packN s = 0 := by unfold packN; rw [h]; rfl
/-- What is packed says its fields. -/
theorem unp_pack {s : St} (h : Legal s) : unpS (packL s) = s := by
  obtain ⟨f1, f2, f3, f4⟩ := first_lt h
  have h3 := low_lt s.lat
  have h4 := low_lt s.lon
  obtain ⟨⟨m0, m1⟩, ⟨i0, i1⟩, ⟨a0, a1⟩, ⟨o0, o1⟩, _⟩ := h
  have e1 : packL s / 72057594037927936 = firstN s := by unfold packL; omega
  have e2 : packL s / 281474976710656 % 256 = s.iso.toNat := by unfold packL; omega
  have e3 : packL s / 16777216 % 16777216 = low24 s.lat := by unfold packL; omega
  have e4 : packL s % 16777216 = low24 s.lon := by unfold packL; omega
  have e5 : packL s / 576460752303423488 = firstN s / 8 := by rw [← e1, Nat.div_div_eq_div_mul]
  have e6 : packL s / 1152921504606846976 = firstN s / 16 := by rw [← e1, Nat.div_div_eq_div_mul]
  unfold unpS
  rw [e1, e2, e3, e4, e5, e6, f2, f3, f4, ext_low (by omega) (by omega), ext_low (by omega) (by omega)]
  obtain ⟨mode, armed, home, lat, lon, iso⟩ := s
  simp only at *
  congr 1 <;> omega
theorem unpOk_pack {s : St} (h : Legal s) : unpOk (packN s) = true ∧ unpR (packN s) = s ∧ unpE (packN s) = 0 := by
  have hp := packN_legal h
  have hu := unp_pack h
  have ho : unpOk (packN s) = true := by
    unfold unpOk
    rw [hp, hu, (legal_iff s).2 h, hp]
    simp
  refine ⟨ho, ?_, ?_⟩
  · unfold unpR; rw [ho, if_pos rfl, hp, hu]
  · unfold unpE; rw [ho]; rfl
theorem unp_back {n : Nat} (h : unpE n = 0) : legalB (unpR n) = true ∧ packN (unpR n) = n := by
  unfold unpE at h
  by_cases k : unpOk n = true
  · unfold unpR
    rw [if_pos k]
    unfold unpOk at k
    rw [Bool.and_eq_true, beq_iff_eq] at k
    exact k
  · rw [if_neg k] at h; cases h
theorem unp_none {n : Nat} (h : unpE n ≠ 0) : unpR n = St.zero ∧ unpE n = 13 := by
  unfold unpE unpR at *
  by_cases k : unpOk n = true
  · rw [if_pos k] at h; exact absurd rfl h
  · rw [if_neg k, if_neg k]; exact ⟨rfl, rfl⟩
theorem unp_lt {n : Nat} (h : unpE n = 0) : n < 2305843009213693952 := by rw [← (unp_back h).2]; exact packN_lt _
theorem pack_inj {s t : St} (hs : Legal s) (ht : Legal t) (h : packN s = packN t) : s = t := by
  rw [← (unpOk_pack hs).2.1, ← (unpOk_pack ht).2.1, h]
theorem unp_iso {n : Nat} (h : unpE n = 0) : n / 281474976710656 % 256 ≤ 15 ∧ n / 72057594037927936 % 8 ≤ 5 := by
  have h1 := (legal_iff _).1 (unp_back h).1
  have h2 : unpOk n = true := by
    unfold unpE at h
    by_cases k : unpOk n = true
    · exact k
    · rw [if_neg k] at h; cases h
  unfold unpR at h1; rw [if_pos h2] at h1
  obtain ⟨⟨_, m⟩, ⟨_, i⟩, _⟩ := h1
  unfold unpS at m i
  simp only at m i
  omega
theorem bitZ_le (v : Int) (k : Nat) : bitZ v k ≤ 1 := by unfold bitZ; split <;> omega
theorem sound_le (v : Int) : soundN v ≤ 4 := by
  have := bitZ_le v 0; have := bitZ_le v 1; have := bitZ_le v 2; have := bitZ_le v 3
  unfold soundN; omega
/-- Sensors that are sound, of the first ones. -/
def soundTo (v : Int) : Nat → Nat
  | 0 => 0
  | k + 1 => soundTo v k + bitZ v k
theorem soundTo_four (v : Int) : soundTo v 4 = soundN v := by simp [soundTo, soundN]
theorem soundTo_le (v : Int) (k : Nat) : soundTo v k ≤ k := by
  induction k with
  | zero => exact Nat.le_refl _
  | succ k ih => have := bitZ_le v k; unfold soundTo; omega
end Go.Proofs.Ytdfacpppmfoiiaa

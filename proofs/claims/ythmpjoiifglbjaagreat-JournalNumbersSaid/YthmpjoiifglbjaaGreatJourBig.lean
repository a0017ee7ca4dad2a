/- The laws' own helpers of layer 12: contracts only. -/
import Derived.Test.YthmpjoiifglbjaaGreatRows
import Derived.Test.YthmpjoiifglbjaaGreatJourFit
import Derived.Test.YthmpjoiifglbjaaGreatJourOpen
import Derived.Test.YthmpjoiifglbjaaGreatBox
import Derived.Test.YthmpjoiifglbjaaGreatInts
import Derived.WalkKit
import Derived.ProofKit
import Derived.Lib.Hide
import Derived.Deep.RegionHeld3
import Derived.WalkLawsBesides
import Derived.WalkSpells
import Derived.IntWalk
namespace Go.Proofs.YthmpjoiifglbjaaGreat
open Go.RowKit
set_option linter.unusedVariables false
set_option linter.unusedSimpArgs false

def big12 (f : Fl) (l : List Stp) : Bool := (l.take 70).any (fun s => decide (400 < s.mask.size)) || (decide ((400 : Int) < (f.b0.size : Int)) || decide ((400 : Int) < (f.b1.size : Int)) || decide ((60 : Int) < (l.length : Int)))
theorem big12_no {f : Fl} {l : List Stp} (h : big12 f l = false) : l.length ≤ 60 := by unfold big12 at h; simp at h; omega

set_option maxRecDepth 100000 in
set_option maxHeartbeats 4000000 in
theorem law12Big (f : Fl) (l : List Stp) (A : Option Addr) (c : Nat) (W : World) (ho : ∀ o ∈ l, o.ok) (hl : RowsAt 3 stpV W A l) (hc : l.length ≤ c ∧ c ≤ maxLen) :
    Calls Tryz.prog 6 #[.agg #[.string f.b0, .string f.b1, .int .i64 f.e0, .int .i64 f.e1, .int .i64 f.lim], .slice A l.length c] W fun e W' => e = .returned (.bool (big12 f l)) ∧ Below W.heap.size W W' := by
  have HL := Lib.hid (fun k o hk => hl.hop k o hk)
  obtain ⟨hc1, hc2⟩ := hc
  unfold maxLen at hc2
  clear hl
  obtain ⟨B, hBg⟩ : ∃ B, big12 f l = B := ⟨_, rfl⟩
  rw [hBg]
  replace hBg := Lib.hid hBg
  have hB : Below W.heap.size W (W.alloc (.cells #[.string f.b0, .string f.b1, .int .i64 f.e0, .int .i64 f.e1, .int .i64 f.lim] 25)) := ((Below.refl _ _).alloc (Nat.le_refl _) _)
  have xf := (Box.new 25 W [.string f.b0, .string f.b1, .int .i64 f.e0, .int .i64 f.e1, .int .i64 f.lim])
  go_enter Tryz.func6, Tryz.ntmps6
  go_wp2
  go_loopw [5] (fun i w => ∃ k : Nat, k ≤ l.length ∧ k ≤ 70 ∧ i = .int .i64 k ∧ (∀ j o, j < k → l[j]? = some o → o.mask.size ≤ 400) ∧ Box 25 w W.heap.size [.string f.b0, .string f.b1, .int .i64 f.e0, .int .i64 f.e1, .int .i64 f.lim] ∧ Below W.heap.size W w) (fun i _ => l.length - (intOf i).toNat)
  case atStart => exact ⟨0, Nat.zero_le _, Nat.zero_le _, rfl, fun j o h => by omega, xf, hB⟩
  case round =>
    clear xf hB
    obtain ⟨k, hk, hk7, rfl, hno, xf, hB⟩ := hrel
    replace hno := Lib.hid hno
    by_cases hlt : k < l.length
    · by_cases h70 : k < 70
      · obtain ⟨s, hs⟩ : ∃ s, l[k]? = some s := ⟨_, List.getElem?_eq_getElem hlt⟩
        obtain ⟨g, off, rfl, HC⟩ := HL.out k s hs
        have c2 : wr.cell? ⟨g, off + k * 3 + 2, none⟩ = some (.string s.mask) := HC _ hB 2 (by decide)
        clear HC HL
        have hsm : s.mask.size ≤ 2 ^ 63 - 1 := (ho s (List.mem_of_getElem? hs)).sm
        have j0 : (0 : Int) ≤ (k : Int) := by omega
        have j1 : (k : Int) < (l.length : Int) := by omega
        have j2 : (k : Int) < 70 := by omega
        by_cases hbig : 400 < s.mask.size
        · have H := Lib.hid (show big12 f l = true from by
            unfold big12; rw [Bool.or_eq_true]; left; rw [List.any_eq_true]
            exact ⟨s, List.mem_of_getElem? (by rw [List.getElem?_take, if_pos h70]; exact hs), by simpa using hbig⟩)
          have j3 : (s.mask.size : Int) > 400 := by omega
          obtain rfl : B = true := hBg.out.symm.trans H.out
          clear hs hno
          go_wp2
          go_ret
          exact ⟨rfl, hB⟩
        · have j3 : ¬ (s.mask.size : Int) > 400 := by omega
          have hno2 := Lib.hid (show ∀ j o, j < k + 1 → l[j]? = some o → o.mask.size ≤ 400 from fun j o hj hjo => by
            by_cases e : j = k
            · subst e; rw [hs] at hjo; cases hjo; omega
            · exact hno.out j o (by omega) hjo)
          clear hs hno
          go_wp2
          go_roundw
          case rel => exact ⟨k + 1, by omega, by omega, by go_num, hno2.out, xf, hB⟩
          case measure => simp [intOf]; omega
      · obtain rfl : k = 70 := by omega
        have j1 : ((70 : Nat) : Int) < (l.length : Int) := by omega
        clear HL
        have HA : ∀ s ∈ l.take 70, s.mask.size ≤ 400 := fun s hs => by
          obtain ⟨j, hj, he⟩ := List.mem_iff_getElem.1 hs
          rw [List.length_take] at hj
          rw [List.getElem_take] at he
          exact hno.out j s (by omega) (by rw [List.getElem?_eq_getElem (by omega), he])
        have HF : big12 f l = (decide ((400 : Int) < (f.b0.size : Int)) || decide ((400 : Int) < (f.b1.size : Int)) || decide ((60 : Int) < (l.length : Int))) := by
          unfold big12
          rw [show ((l.take 70).any fun s => decide (400 < s.mask.size)) = false from List.any_eq_false.2 (fun s hs => by have := HA s hs; simp; omega), Bool.false_or]
        have HF := Lib.hid (hBg.out.symm.trans HF)
        clear HA hno hBg
        by_cases z0 : 400 < f.b0.size
        · have m1 : (f.b0.size : Int) > 400 := by omega
          obtain rfl : B = true := by rw [HF.out]; simp <;> omega
          clear HF
          obtain ⟨xf0, xfz0, xf1, xfz1, xf2, xfz2, xf3, xfz3, xf4, xfz4⟩ := xf.f5
          go_wp2
          go_ret
          exact ⟨rfl, hB⟩
        · have m1 : ¬ (f.b0.size : Int) > 400 := by omega
          by_cases z1 : 400 < f.b1.size
          · have m2 : (f.b1.size : Int) > 400 := by omega
            obtain rfl : B = true := by rw [HF.out]; simp <;> omega
            clear HF
            obtain ⟨xf0, xfz0, xf1, xfz1, xf2, xfz2, xf3, xfz3, xf4, xfz4⟩ := xf.f5
            go_wp2
            go_ret
            exact ⟨rfl, hB⟩
          · have m2 : ¬ (f.b1.size : Int) > 400 := by omega
            by_cases z2 : 60 < l.length
            · have m3 : (l.length : Int) > 60 := by omega
              obtain rfl : B = true := by rw [HF.out]; simp <;> omega
              clear HF
              obtain ⟨xf0, xfz0, xf1, xfz1, xf2, xfz2, xf3, xfz3, xf4, xfz4⟩ := xf.f5
              go_wp2
              go_ret
              exact ⟨rfl, hB⟩
            · exact absurd (by omega) z2
    · obtain rfl : k = l.length := by omega
      clear HL
      have HA : ∀ s ∈ l.take 70, s.mask.size ≤ 400 := fun s hs => by
        obtain ⟨j, hj, he⟩ := List.mem_iff_getElem.1 hs
        rw [List.length_take] at hj
        rw [List.getElem_take] at he
        exact hno.out j s (by omega) (by rw [List.getElem?_eq_getElem (by omega), he])
      have HF : big12 f l = (decide ((400 : Int) < (f.b0.size : Int)) || decide ((400 : Int) < (f.b1.size : Int)) || decide ((60 : Int) < (l.length : Int))) := by
        unfold big12
        rw [show ((l.take 70).any fun s => decide (400 < s.mask.size)) = false from List.any_eq_false.2 (fun s hs => by have := HA s hs; simp; omega), Bool.false_or]
      have HF := Lib.hid (hBg.out.symm.trans HF)
      clear HA hno hBg
      by_cases z0 : 400 < f.b0.size
      · have m1 : (f.b0.size : Int) > 400 := by omega
        obtain rfl : B = true := by rw [HF.out]; simp <;> omega
        clear HF
        obtain ⟨xf0, xfz0, xf1, xfz1, xf2, xfz2, xf3, xfz3, xf4, xfz4⟩ := xf.f5
        go_wp2
        go_ret
        exact ⟨rfl, hB⟩
      · have m1 : ¬ (f.b0.size : Int) > 400 := by omega
        by_cases z1 : 400 < f.b1.size
        · have m2 : (f.b1.size : Int) > 400 := by omega
          obtain rfl : B = true := by rw [HF.out]; simp <;> omega
          clear HF
          obtain ⟨xf0, xfz0, xf1, xfz1, xf2, xfz2, xf3, xfz3, xf4, xfz4⟩ := xf.f5
          go_wp2
          go_ret
          exact ⟨rfl, hB⟩
        · have m2 : ¬ (f.b1.size : Int) > 400 := by omega
          by_cases z2 : 60 < l.length
          · have m3 : (l.length : Int) > 60 := by omega
            obtain rfl : B = true := by rw [HF.out]; simp <;> omega
            clear HF
            obtain ⟨xf0, xfz0, xf1, xfz1, xf2, xfz2, xf3, xfz3, xf4, xfz4⟩ := xf.f5
            go_wp2
            go_ret
            exact ⟨rfl, hB⟩
          · have m3 : ¬ (l.length : Int) > 60 := by omega
            obtain rfl : B = false := by rw [HF.out]; simp <;> omega
            clear HF
            obtain ⟨xf0, xfz0, xf1, xfz1, xf2, xfz2, xf3, xfz3, xf4, xfz4⟩ := xf.f5
            go_wp2
            go_ret
            exact ⟨rfl, hB⟩

end Go.Proofs.YthmpjoiifglbjaaGreat

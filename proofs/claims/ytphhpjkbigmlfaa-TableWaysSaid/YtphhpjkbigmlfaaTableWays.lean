/- The document's own ways, and the laws' comparison of two lists: contracts only. -/
import Derived.Test.YtphhpjkbigmlfaaTableRef
import Derived.Test.YtphhpjkbigmlfaaIntsOwn
import Derived.Test.YtphhpjkbigmlfaaBase
import Derived.OwnWalk
import Derived.RangeFuncBox
import Derived.Deep.RegionHeld3
import Derived.WalkSpells
import Derived.IntWalk
namespace Go.Proofs.Ytphhpjkbigmlfaa
open Go.RowKit
set_option linter.unusedVariables false
set_option linter.unusedSimpArgs false

/-- Each way's number is a mode's, and they rise. -/
theorem waysL_rise (a : Int) (k : Nat) (v : Int) (h : (waysL a)[k]? = some v) : (0 ≤ v ∧ v ≤ 5) ∧ ∀ (j : Nat) (u : Int), k = j + 1 → (waysL a)[j]? = some u → u < v := by
  have hs : (waysL a).Pairwise (· < ·) := List.Pairwise.filter _ (by decide)
  refine ⟨?_, fun j u e hu => ?_⟩
  · have hm : v ∈ waysL a := List.mem_of_getElem? h
    have hw := ways_mem.1 hm
    cases k : modeB v with
    | true => have := mode_cases k; omega
    | false => rw [way_none (Or.inr k)] at hw; cases hw
  · subst e
    obtain ⟨h1, e1⟩ := List.getElem?_eq_some_iff.1 h
    obtain ⟨h2, e2⟩ := List.getElem?_eq_some_iff.1 hu
    rw [← e1, ← e2]
    exact List.pairwise_iff_getElem.1 hs j (j + 1) h2 h1 (by omega)
theorem take_found {l : List Int} {k : Nat} {v : Int} (h : l[k]? = some v) (b : Int) : decide (b ∈ l.take (k + 1)) = (decide (b ∈ l.take k) || (v == b)) := by
  rw [List.take_add_one, h]
  by_cases h1 : b ∈ l.take k <;> by_cases h2 : b = v <;> simp [h1, h2]
  exact fun e => h2 e.symm

set_option maxRecDepth 100000 in
set_option maxHeartbeats 8000000 in
theorem ref15Ways (a : Int) (W : World) :
    Calls Try.prog 18 #[.int .i64 a] W fun e W' => ∃ A c, e = .returned (.slice A (waysL a).length c) ∧ IntsAt W' A (waysL a) ∧ Below W.heap.size W W' := by
  obtain ⟨i0, hi, hz0, hz1, hz2⟩ := info_parts info_int0
  go_enter Try.func18, Try.ntmps18
  go_wp2
  go_loopw [3, 4] (fun v i wr => ∃ k : Nat, k ≤ 6 ∧ i = .int .i64 k ∧ wr.ownsRow W.heap.size 3 1 v (waysTo a k).length ((waysTo a k).map (Value.int .i64)) ∧ Below W.heap.size W wr)
    (fun _ i _ => 6 - (intOf i).toNat)
  case atStart => exact ⟨0, by omega, rfl, World.ownsRow_made _ _ 0 (by simp) (by simp) rfl, (Below.refl _ _).alloc (Nat.le_refl _) _⟩
  case round =>
    obtain ⟨k, hk, rfl, hown, hB⟩ := hrel
    by_cases hlt : k < 6
    · have i1 : (k : Int) ≤ 5 := by omega
      have hlen := waysTo_len a k
      have TW := Lib.hid (fun (V : World) => ref15Way a (k : Int) V)
      cases hw : wayB a (k : Int)
      · have HS := Lib.hid (waysTo_no hw)
        rw [hw] at TW
        clear hw hlen
        go_wp2_with fail
        refine (TW.out _).mono ?_
        rintro e w' ⟨rfl, hw⟩
        rw [hw]
        clear hw w'
        go_wp2
        go_roundw
        case rel => exact ⟨k + 1, by omega, by go_num, by rw [HS.out]; exact hown, hB⟩
        case measure => simp [intOf]; omega
      · have HS := Lib.hid (waysTo_yes hw)
        rw [hw] at TW
        clear hw
        go_wp2_with fail
        refine (TW.out _).mono ?_
        rintro e w' ⟨rfl, hw⟩
        rw [hw]
        clear hw w'
        have hsz := hB.size
        go_wp2_with (at_builtin; refine wpList_append_own _ rfl _ _ 26 rfl W.heap.size 3 i0 (.int .i64 0) 1 8 Try.underlying26 hi hz0 hz1 hz2 rfl (by decide) _ _ _ rfl (hown.alloc _) ⟨wr.heap.size, 0, none⟩ 1 1 [.int .i64 ((k : Int))] rfl rfl (cell_one_new _ _ _) ?c2 ?c3 ?c4 ?c5 ?_)
        case c2 => intro u hu; simp at hu; subst hu; rfl
        case c3 => unfold maxLen; omega
        case c4 => omega
        case c5 => simp; omega
        intro v' w1 hown' hgrow _
        have hB3 : Below W.heap.size W w1 := (hB.alloc hsz _).grown hgrow (by simp; omega) (fun j e => ((hown.lt j e).1))
        have H3 : Hid (w1.ownsRow W.heap.size 3 1 v' (waysTo a (k + 1)).length ((waysTo a (k + 1)).map (Value.int .i64))) := by
          rw [HS.out, List.length_append, List.map_append]; exact hown'
        clear hown' hown hgrow hB HS hlen
        go_wp2
        go_roundw
        case rel => exact ⟨k + 1, by omega, by go_num, H3.out, hB3⟩
        case measure => simp [intOf]; omega
    · obtain rfl : k = 6 := by omega
      rw [waysTo_all] at hown
      obtain ⟨A, c, rfl, hA, _⟩ := ints_of_row hown
      clear hown
      go_wp2
      go_ret
      exact ⟨A, c, rfl, hA, hB⟩

set_option maxRecDepth 100000 in
set_option maxHeartbeats 8000000 in
theorem lawInts15 (l : List Int) (A B : Option Addr) (c d : Nat) (W : World) (hA : IntsAt W A l) (hC : IntsAt W B l) (hl : l.length ≤ 1000) :
    Calls Try.prog 16 #[.slice A l.length c, .slice B l.length d] W fun e W' => e = .returned (.bool true) ∧ Below W.heap.size W W' := by
  go_enter Try.func16, Try.ntmps16
  go_wp2
  go_loopw [5] (fun i w => ∃ k : Nat, k ≤ l.length ∧ i = .int .i64 k ∧ Below W.heap.size W w) (fun i _ => l.length - (intOf i).toNat)
  case atStart => exact ⟨0, Nat.zero_le _, rfl, Below.refl _ _⟩
  case round =>
    obtain ⟨k, hk, rfl, hB⟩ := hrel
    by_cases hlt : k < l.length
    · obtain ⟨v, hv⟩ : ∃ v, l[k]? = some v := ⟨_, List.getElem?_eq_getElem hlt⟩
      obtain ⟨g, off, rfl, y0⟩ := (hA.seq hB).at hv
      obtain ⟨g2, off2, rfl, y1⟩ := (hC.seq hB).at hv
      have i0 : (0 : Int) ≤ (k : Int) := by omega
      have i1 : (k : Int) < (l.length : Int) := by omega
      replace hv := Lib.hid hv
      have hB2 := hB.drew
      generalize l.length = n at *
      go_wp2
      go_region
      go_wp2
      go_roundw
      case rel => exact ⟨k + 1, by omega, by go_num, hB2⟩
      case measure => simp [intOf]; omega
    · obtain rfl : k = l.length := by omega
      generalize l.length = n at *
      have i1 : ¬ (n : Int) < (n : Int) := by omega
      go_wp2
      go_ret
      exact ⟨rfl, hB⟩

end Go.Proofs.Ytphhpjkbigmlfaa

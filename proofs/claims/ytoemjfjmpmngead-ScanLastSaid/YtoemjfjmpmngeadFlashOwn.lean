/- The program's own New, Program, Erase and Blank of layer 3, and the statements' small helpers: contracts only. -/
import Derived.Test.YtoemjfjmpmngeadClear
import Derived.Test.YtoemjfjmpmngeadPlain
import Derived.Test.YtoemjfjmpmngeadFlashRead
import Derived.Test.YtoemjfjmpmngeadFlashRef
import Derived.Test.YtoemjfjmpmngeadFlashPlain
import Derived.Deep.RegionHeld3
namespace Go.Proofs.Ytoemjfjmpmngead
open Go.RowKit
set_option linter.unusedVariables false
set_option linter.unusedSimpArgs false

theorem blankB_iff (s : ByteArray) : blankB s = true ↔ ∀ i (h : i < s.size), s[i] = 255 := by
  unfold blankB bl
  rw [List.all_eq_true]
  constructor
  · intro h i hi
    exact beq_iff_eq.1 (h (s.data[i]'hi) (Array.mem_toList_iff.2 (Array.getElem_mem _)))
  · intro h b hb
    obtain ⟨i, hi, rfl⟩ := Array.mem_iff_getElem.1 (Array.mem_toList_iff.1 hb)
    have := h i hi
    exact beq_iff_eq.2 this

set_option maxRecDepth 100000 in
set_option maxHeartbeats 1000000 in
theorem flBlank (s : ByteArray) (W : World) (hs : s.size ≤ maxLen) :
    Calls Try.prog 43 #[.string s] W fun e W' => e = .returned (.bool (blankB s)) ∧ Below W.heap.size W W' := by
  unfold maxLen at hs
  have HB := Lib.hid (blankB_iff s)
  go_enter Try.func43, Try.ntmps43
  go_wp2
  go_loop [6] (fun i => ∃ k : Nat, k ≤ s.size ∧ i = .int .i64 k ∧ ∀ j (h : j < s.size), j < k → s[j] = 255)
    (fun i => s.size - (intOf i).toNat)
  case atStart => exact ⟨0, Nat.zero_le _, rfl, fun j _ h => absurd h (by omega)⟩
  case round =>
    obtain ⟨k, hk, rfl, hall⟩ := hrel
    by_cases hlt : k < s.size
    · by_cases hb : s[k] = 255
      · have hall2 : ∀ j (h : j < s.size), j < k + 1 → s[j] = 255 := fun j h hj => by
          rcases Nat.lt_succ_iff_lt_or_eq.1 hj with h1 | rfl
          · exact hall j h h1
          · exact hb
        have hb2 : (((s[k]).toNat : Int) != 255) = false := by rw [hb]; rfl
        have H := Lib.hid hall2
        clear hall hall2 hb
        go_wp2
        go_round
        case rel => exact ⟨k + 1, by omega, by go_num, H.out⟩
        case measure => simp [intOf]; omega
      · have hb2 : (((s[k]).toNat : Int) != 255) = true := by
          rw [bne_iff_ne]; intro h; exact hb (UInt8.toNat_inj.1 (by have : (255 : UInt8).toNat = 255 := rfl; omega))
        have hf : blankB s = false := by
          rw [← Bool.not_eq_true]; intro h; exact hb (HB.out.1 h k hlt)
        have HF := Lib.hid hf.symm
        clear hf hb hall
        go_wp2
        go_ret
        exact ⟨ret_bool HF.out, Below.refl _ _⟩
    · have hf : blankB s = true := HB.out.2 fun i hi => hall i hi (by omega)
      have HF := Lib.hid hf.symm
      clear hf hall
      go_wp2
      go_ret
      exact ⟨ret_bool HF.out, Below.refl _ _⟩

theorem progF_fit {f : Fl} (hf : f.fit) (bank q : Int) (d : ByteArray) : (progF f bank q d).fit := by
  have h := progF_bank_size f bank q d
  refine ⟨progF_ok hf.ok bank q d, ?_, ?_⟩
  · unfold progF Fl.setBank at *
    split
    · split
      · rename_i h1 h2; rw [if_pos h1, if_pos h2] at h; subst h2; exact Nat.le_trans (Nat.le_of_eq h) hf.z0
      · exact hf.z0
    · exact hf.z0
  · unfold progF Fl.setBank at *
    split
    · split
      · exact hf.z1
      · rename_i h1 h2; rw [if_pos h1, if_neg h2] at h; unfold Fl.bank at h; rw [if_neg h2, if_neg h2] at h; show (splice (f.bank bank) q.toNat d).size ≤ _; unfold Fl.bank; rw [if_neg h2]; exact Nat.le_trans (Nat.le_of_eq h) hf.z1
    · exact hf.z1

def bigB (f : Fl) : Bool := decide (500 < f.b0.size) || decide (500 < f.b1.size)
theorem bigB_no {f : Fl} (h : bigB f = false) : f.b0.size ≤ 500 ∧ f.b1.size ≤ 500 := by
  unfold bigB at h; simp at h; omega
theorem big_eq (f : Fl) : (decide ((500 : Int) < (f.b0.size : Int)) || decide ((500 : Int) < (f.b1.size : Int))) = bigB f := by
  unfold bigB
  rw [decide_eq_decide.2 (show (500 : Int) < (f.b0.size : Int) ↔ 500 < f.b0.size from by omega), decide_eq_decide.2 (show (500 : Int) < (f.b1.size : Int) ↔ 500 < f.b1.size from by omega)]

end Go.Proofs.Ytoemjfjmpmngead

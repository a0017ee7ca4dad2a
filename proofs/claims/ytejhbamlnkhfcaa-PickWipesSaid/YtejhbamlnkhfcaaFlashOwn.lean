/- The program's own New, Program, Erase and Blank of layer 3, and the statements' small helpers: contracts only. -/
import Derived.Test.YtejhbamlnkhfcaaClear
import Derived.Test.YtejhbamlnkhfcaaShelf
import Derived.Test.YtejhbamlnkhfcaaPlain
import Derived.Test.YtejhbamlnkhfcaaFlashRead
import Derived.Test.YtejhbamlnkhfcaaFlashRef
import Derived.Test.YtejhbamlnkhfcaaFlashPlain
import Derived.Deep.RegionHeld3
namespace Go.Proofs.Ytejhbamlnkhfcaa
open Go.RowKit
set_option linter.unusedVariables false
set_option linter.unusedSimpArgs false

theorem blankB_iff (s : ByteArray) : blankB s = true ↔ ∀ i (h : i < s.size), s[i] = 255 := by
  unfold blankB bl
  rw [List.all_eq_true]
  constructor
  · intro h i hi
    exact beq_iff_eq.1 (h (s.data[i]'hi) (Array.mem_toList_iff.2 (Array.getElem_mem _)))
  · intro h b hb
    obtain ⟨i, hi, rfl⟩ := Array.mem_iff_getElem.1 (Array.mem_toList_iff.1 hb)
    have := h i hi
    exact beq_iff_eq.2 this

set_option maxRecDepth 100000 in
set_option maxHeartbeats 1000000 in
theorem flBlank (s : ByteArray) (W : World) (hs : s.size ≤ maxLen) :
    Calls Try.prog 58 #[.string s] W fun e W' => e = .returned (.bool (blankB s)) ∧ Below W.heap.size W W' := by
  unfold maxLen at hs
  have HB := Lib.hid (blankB_iff s)
  go_enter Try.func58, Try.ntmps58
  go_wp2
  go_loop [6] (fun i => ∃ k : Nat, k ≤ s.size ∧ i = .int .i64 k ∧ ∀ j (h : j < s.size), j < k → s[j] = 255)
    (fun i => s.size - (intOf i).toNat)
  case atStart => exact ⟨0, Nat.zero_le _, rfl, fun j _ h => absurd h (by omega)⟩
  case round =>
    obtain ⟨k, hk, rfl, hall⟩ := hrel
    by_cases hlt : k < s.size
    · by_cases hb : s[k] = 255
      · have hall2 : ∀ j (h : j < s.size), j < k + 1 → s[j] = 255 := fun j h hj => by
          rcases Nat.lt_succ_iff_lt_or_eq.1 hj with h1 | rfl
          · exact hall j h h1
          · exact hb
        have hb2 : (((s[k]).toNat : Int) != 255) = false := by rw [hb]; rfl
        have H := Lib.hid hall2
        clear hall hall2 hb
        go_wp2
        go_round
        case rel => exact ⟨k + 1, by omega, by go_num, H.out⟩
        case measure => simp [intOf]; omega
      · have hb2 : (((s[k]).toNat : Int) != 255) = true := by
          rw [bne_iff_ne]; intro h; exact hb (UInt8.toNat_inj.1 (by have : (255 : UInt8).toNat = 255 := rfl; omega))
        have hf : blankB s = false := by
          rw [← Bool.not_eq_true]; intro h; exact hb (HB.out.1 h k hlt)
        have HF := Lib.hid hf.symm
        clear hf hb hall
        go_wp2
        go_ret
        exact ⟨ret_bool HF.out, Below.refl _ _⟩
    · have hf : blankB s = true := HB.out.2 fun i hi => hall i hi (by omega)
      have HF := Lib.hid hf.symm
      clear hf hall
      go_wp2
      go_ret
      exact ⟨ret_bool HF.out, Below.refl _ _⟩

theorem repeat255 (n : Nat) : (⟨(Lib.repeatL [255] n).toArray⟩ : ByteArray) = blankT n := by
  have := Lib.repeatL_replicate 255 1 n
  rw [Nat.mul_one] at this
  show bs (Lib.repeatL (List.replicate 1 255) n) = _
  rw [this]
  rfl

set_option maxRecDepth 100000 in
set_option maxHeartbeats 1000000 in
theorem flBlanks (n : Nat) (W : World) (hn : n ≤ 140737488351232) :
    Calls Try.prog 24 #[.int .i64 n] W fun e W' => e = .returned (.string (blankT n)) ∧ Below W.heap.size W W' := by
  have hcv : (convert 63 9 (.slice (some ⟨W.heap.size, 0, none⟩) 1 1)).run Try.prog (W.alloc (.cells #[.int .u8 255] 5)) = .ok (.string ⟨#[255]⟩) (W.alloc (.cells #[.int .u8 255] 5)) :=
    one_string Try.underlying63 Try.underlying5 Try.underlying9 W 255
  have hlen : (⟨#[255]⟩ : ByteArray).size * n ≤ 140737488355328 := by rw [show (⟨#[255]⟩ : ByteArray).size = 1 from rfl]; omega
  go_enter Try.func24, Try.ntmps24
  go_wp2_with fail
  refine (Try.strings_Repeat _ _ _ (by omega) hlen).mono ?_
  rintro e W2 ⟨rfl, k⟩
  replace k := below_seq ((Below.refl _ W).alloc (Nat.le_refl _) _) k
  rw [repeat255]
  go_wp2
  go_ret
  exact ⟨rfl, k⟩

set_option maxRecDepth 100000 in
set_option maxHeartbeats 1000000 in
theorem flNew (size lim : Int) (W : World) :
    Calls Try.prog 13 #[.int .i64 size, .int .i64 lim] W fun e W' =>
      e = .returned (.agg #[.string (newF size lim).b0, .string (newF size lim).b1, .int .i64 (newF size lim).e0, .int .i64 (newF size lim).e1, .int .i64 (newF size lim).lim]) ∧ Below W.heap.size W W' := by
  by_cases h1 : size < 0
  · have H : newF size lim = ⟨⟨#[]⟩, ⟨#[]⟩, 0, 0, 0⟩ := if_pos (.inl h1)
    rw [H]; clear H
    go_enter Try.func13, Try.ntmps13
    go_wp2
    exact bodyPost_ret (v := .agg #[.string ⟨#[]⟩, .string ⟨#[]⟩, .int .i64 0, .int .i64 0, .int .i64 0]) (by simp [results, Try.results13, go_sem]) rfl ⟨rfl, by first | exact (Below.refl _ _).alloc (Nat.le_refl _) _ | exact ((((((Below.refl _ _).alloc (Nat.le_refl _) _).setCell (Nat.le_refl _) _).setCell (Nat.le_refl _) _).setCell (Nat.le_refl _) _).setCell (Nat.le_refl _) _).setCell (Nat.le_refl _) _⟩
  · by_cases h2 : 400 < size
    · have H : newF size lim = ⟨⟨#[]⟩, ⟨#[]⟩, 0, 0, 0⟩ := if_pos (.inr (.inl h2))
      rw [H]; clear H
      go_enter Try.func13, Try.ntmps13
      go_wp2
      exact bodyPost_ret (v := .agg #[.string ⟨#[]⟩, .string ⟨#[]⟩, .int .i64 0, .int .i64 0, .int .i64 0]) (by simp [results, Try.results13, go_sem]) rfl ⟨rfl, by first | exact (Below.refl _ _).alloc (Nat.le_refl _) _ | exact ((((((Below.refl _ _).alloc (Nat.le_refl _) _).setCell (Nat.le_refl _) _).setCell (Nat.le_refl _) _).setCell (Nat.le_refl _) _).setCell (Nat.le_refl _) _).setCell (Nat.le_refl _) _⟩
    · by_cases h3 : lim < 0
      · have H : newF size lim = ⟨⟨#[]⟩, ⟨#[]⟩, 0, 0, 0⟩ := if_pos (.inr (.inr (.inl h3)))
        rw [H]; clear H
        go_enter Try.func13, Try.ntmps13
        go_wp2
        exact bodyPost_ret (v := .agg #[.string ⟨#[]⟩, .string ⟨#[]⟩, .int .i64 0, .int .i64 0, .int .i64 0]) (by simp [results, Try.results13, go_sem]) rfl ⟨rfl, by first | exact (Below.refl _ _).alloc (Nat.le_refl _) _ | exact ((((((Below.refl _ _).alloc (Nat.le_refl _) _).setCell (Nat.le_refl _) _).setCell (Nat.le_refl _) _).setCell (Nat.le_refl _) _).setCell (Nat.le_refl _) _).setCell (Nat.le_refl _) _⟩
      · by_cases h4 : 1000 < lim
        · have H : newF size lim = ⟨⟨#[]⟩, ⟨#[]⟩, 0, 0, 0⟩ := if_pos (.inr (.inr (.inr h4)))
          rw [H]; clear H
          go_enter Try.func13, Try.ntmps13
          go_wp2
          exact bodyPost_ret (v := .agg #[.string ⟨#[]⟩, .string ⟨#[]⟩, .int .i64 0, .int .i64 0, .int .i64 0]) (by simp [results, Try.results13, go_sem]) rfl ⟨rfl, by first | exact (Below.refl _ _).alloc (Nat.le_refl _) _ | exact ((((((Below.refl _ _).alloc (Nat.le_refl _) _).setCell (Nat.le_refl _) _).setCell (Nat.le_refl _) _).setCell (Nat.le_refl _) _).setCell (Nat.le_refl _) _).setCell (Nat.le_refl _) _⟩
        · obtain ⟨n, rfl⟩ := Int.eq_ofNat_of_zero_le (by omega : 0 ≤ size)
          have H : newF (n : Int) lim = ⟨blankT n, blankT n, 0, 0, lim⟩ := if_neg (by omega)
          rw [H]; clear H
          go_enter Try.func13, Try.ntmps13
          have hB : Below W.heap.size W (W.alloc (.cells #[.string ⟨#[]⟩, .string ⟨#[]⟩, .int .i64 0, .int .i64 0, .int .i64 0] 25)) := (Below.refl _ _).alloc (Nat.le_refl _) _
          have xr := Box.new 25 W [.string ⟨#[]⟩, .string ⟨#[]⟩, .int .i64 0, .int .i64 0, .int .i64 0]
          go_wp2_with fail
          refine (flBlanks n _ (by omega)).mono ?_
          rintro e V2 ⟨rfl, k⟩
          replace hB := below_seq hB k
          replace xr := xr.seq k
          clear k
          have r0 := xr.cell 0 rfl
          have z0 := xr.frozen 0
          have r1 := xr.cell 1 rfl
          have z1 := xr.frozen 1
          have r2 := xr.cell 2 rfl
          have z2 := xr.frozen 2
          have r3 := xr.cell 3 rfl
          have z3 := xr.frozen 3
          have r4 := xr.cell 4 rfl
          have z4 := xr.frozen 4
          go_wp2
          replace xr : Box 25 (((((V2.setCell ⟨W.heap.size, 0, none⟩ (.string (blankT n))).setCell ⟨W.heap.size, 1, none⟩ (.string (blankT n))).setCell ⟨W.heap.size, 2, none⟩ (.int .i64 0)).setCell ⟨W.heap.size, 3, none⟩ (.int .i64 0)).setCell ⟨W.heap.size, 4, none⟩ (.int .i64 lim)) W.heap.size [.string (blankT n), .string (blankT n), .int .i64 0, .int .i64 0, .int .i64 lim] := (((((xr.set 0 (.string (blankT n))).set 1 (.string (blankT n))).set 2 (.int .i64 0)).set 3 (.int .i64 0)).set 4 (.int .i64 lim))
          replace hB : Below W.heap.size W (((((V2.setCell ⟨W.heap.size, 0, none⟩ (.string (blankT n))).setCell ⟨W.heap.size, 1, none⟩ (.string (blankT n))).setCell ⟨W.heap.size, 2, none⟩ (.int .i64 0)).setCell ⟨W.heap.size, 3, none⟩ (.int .i64 0)).setCell ⟨W.heap.size, 4, none⟩ (.int .i64 lim)) := (((((hB.setCell (Nat.le_refl _) _).setCell (Nat.le_refl _) _).setCell (Nat.le_refl _) _).setCell (Nat.le_refl _) _).setCell (Nat.le_refl _) _)
          clear r0 z0 r1 z1 r2 z2 r3 z3 r4 z4
          generalize (((((V2.setCell ⟨W.heap.size, 0, none⟩ (.string (blankT n))).setCell ⟨W.heap.size, 1, none⟩ (.string (blankT n))).setCell ⟨W.heap.size, 2, none⟩ (.int .i64 0)).setCell ⟨W.heap.size, 3, none⟩ (.int .i64 0)).setCell ⟨W.heap.size, 4, none⟩ (.int .i64 lim)) = V9 at *
          have r0 := xr.cell 0 rfl
          have r1 := xr.cell 1 rfl
          have r2 := xr.cell 2 rfl
          have r3 := xr.cell 3 rfl
          have r4 := xr.cell 4 rfl
          exact bodyPost_ret (v := .agg #[.string (blankT n), .string (blankT n), .int .i64 0, .int .i64 0, .int .i64 lim]) (by simp [results, Try.results13, go_sem, r0, r1, r2, r3, r4]) rfl ⟨rfl, hB⟩

theorem progF_fit {f : Fl} (hf : f.fit) (bank q : Int) (d : ByteArray) : (progF f bank q d).fit := by
  have h := progF_bank_size f bank q d
  refine ⟨progF_ok hf.ok bank q d, ?_, ?_⟩
  · unfold progF Fl.setBank at *
    split
    · split
      · rename_i h1 h2; rw [if_pos h1, if_pos h2] at h; subst h2; exact Nat.le_trans (Nat.le_of_eq h) hf.z0
      · exact hf.z0
    · exact hf.z0
  · unfold progF Fl.setBank at *
    split
    · split
      · exact hf.z1
      · rename_i h1 h2; rw [if_pos h1, if_neg h2] at h; unfold Fl.bank at h; rw [if_neg h2, if_neg h2] at h; show (splice (f.bank bank) q.toNat d).size ≤ _; unfold Fl.bank; rw [if_neg h2]; exact Nat.le_trans (Nat.le_of_eq h) hf.z1
    · exact hf.z1

def bigB (f : Fl) : Bool := decide (500 < f.b0.size) || decide (500 < f.b1.size)
theorem bigB_no {f : Fl} (h : bigB f = false) : f.b0.size ≤ 500 ∧ f.b1.size ≤ 500 := by
  unfold bigB at h; simp at h; omega
theorem big_eq (f : Fl) : (decide ((500 : Int) < (f.b0.size : Int)) || decide ((500 : Int) < (f.b1.size : Int))) = bigB f := by
  unfold bigB
  rw [decide_eq_decide.2 (show (500 : Int) < (f.b0.size : Int) ↔ 500 < f.b0.size from by omega), decide_eq_decide.2 (show (500 : Int) < (f.b1.size : Int) ↔ 500 < f.b1.size from by omega)]

end Go.Proofs.Ytejhbamlnkhfcaa

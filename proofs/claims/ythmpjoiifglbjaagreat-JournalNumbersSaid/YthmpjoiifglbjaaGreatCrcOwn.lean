/- The program's own functions of layer 2: contracts only. -/
import Derived.Test.YthmpjoiifglbjaaGreatCrcRef
import Derived.Test.YthmpjoiifglbjaaGreatBytes
import Derived.Test.YthmpjoiifglbjaaGreatInts
import Derived.OneCell
import Derived.Laws.Rows
namespace Go.Proofs.YthmpjoiifglbjaaGreat
open Go.RowKit
set_option linter.unusedVariables false
attribute [local go_sem] w_xor8 w_lsb w_all

/-- The lowest byte of a word; the word that a byte's table holds. -/
def lowB (c : BitVec 32) : UInt8 := UInt8.ofNat c.toNat
theorem lowB_toNat (c : BitVec 32) : (lowB c).toNat = c.toNat % 256 := by simp [lowB]
theorem w_low (c : BitVec 32) : ((c.toNat : Int) % 256 : Int) = ((lowB c).toNat : Int) := by
  rw [lowB_toNat]; omega
theorem w_shr8 (c : BitVec 32) : ((c.toNat : Int) / 256 : Int) = ((c >>> 8).toNat : Int) := by
  rw [BitVec.toNat_ushiftRight, Nat.shiftRight_eq_div_pow]; rfl
theorem step_word (c : BitVec 32) (b : UInt8) : stepW c b = (c >>> 8) ^^^ stepW 0#32 (bxor (lowB c) b) := by
  have hy : (c >>> 8).toNat < 2 ^ (32 - 8) := by
    rw [BitVec.toNat_ushiftRight, Nat.shiftRight_eq_div_pow]; have := c.isLt; omega
  have hc : c = (c >>> 8) <<< 8 ^^^ z8 (lowB c) := by
    apply BitVec.eq_of_getLsbD_eq
    intro i hi
    have hz : (z8 (lowB c)).getLsbD i = (decide (i < 8) && c.getLsbD i) := by
      rw [z8, BitVec.getLsbD_ofNat, lowB_toNat, show (256 : Nat) = 2 ^ 8 from rfl, Nat.testBit_mod_two_pow]
      simp only [hi, decide_true, Bool.true_and]; rfl
    rw [BitVec.getLsbD_xor, BitVec.getLsbD_shiftLeft, BitVec.getLsbD_ushiftRight, hz]
    by_cases h8 : i < 8
    · simp [h8]
    · simp [h8, hi, show 8 + (i - 8) = i from by omega]
  have hx : z8 (bxor (lowB c) b) = z8 (lowB c) ^^^ z8 b := by
    apply BitVec.eq_of_toNat_eq
    have h1 := (lowB c).toNat_lt
    have h2 := b.toNat_lt
    have h3 := (bxor (lowB c) b).toNat_lt
    simp only [z8, BitVec.toNat_xor, BitVec.toNat_ofNat, bxor, UInt8.toNat_xor] at *
    rw [Nat.mod_eq_of_lt (a := (lowB c).toNat) (by omega), Nat.mod_eq_of_lt (a := b.toNat) (by omega), Nat.mod_eq_of_lt (by omega)]
  unfold stepW
  rw [BitVec.zero_xor, hx]
  have e : c ^^^ z8 b = (c >>> 8) <<< 8 ^^^ (z8 (lowB c) ^^^ z8 b) := by
    rw [← BitVec.xor_assoc, ← hc]
  rw [e, halves_xor, halves_up 8 hy (by decide)]

set_option maxRecDepth 100000 in
set_option maxHeartbeats 1000000 in
theorem crcStep0 (c : BitVec 32) (b : UInt8) (W : World) :
    Calls Tryz.prog 146 #[.int .u32 (c.toNat : Int), .int .u8 (b.toNat : Int)] W fun e W' => e = .returned (.int .u32 ((stepW c b).toNat : Int)) ∧ W' = W := by
  have hc := c.isLt
  have hb := b.toNat_lt
  go_enter Tryz.func146, Tryz.ntmps146
  go_wp2
  go_loop [0, 10] (fun v i => ∃ k : Nat, k ≤ 8 ∧ i = .int .i64 k ∧ v = .int .u32 ((halves k (wx c (z8 b))).toNat : Int))
    (fun _ i => 8 - (intOf i).toNat)
  case atStart => exact ⟨0, by omega, rfl, rfl⟩
  case round =>
    obtain ⟨k, hk, rfl, rfl⟩ := hrel
    have hx := (halves k (wx c (z8 b))).isLt
    by_cases hlt : k < 8
    · by_cases h1 : lsb (halves k (wx c (z8 b))) = 1
      · have H1 := Lib.hid (half_of_one h1)
        have h2 : (((lsb (halves k (wx c (z8 b))) : Nat) : Int) == 1) = true := by rw [h1]; rfl
        clear h1
        go_wp2
        go_round
        case rel => exact ⟨k + 1, by omega, by go_num, by rw [w_shr, w_poly, halves, H1.out]⟩
        case measure => simp [intOf]; omega
      · have H1 := Lib.hid (half_of_none h1)
        have h2 : (((lsb (halves k (wx c (z8 b))) : Nat) : Int) == 1) = false := beq_eq_false_iff_ne.2 (fun h => h1 (by omega))
        clear h1
        go_wp2
        go_round
        case rel => exact ⟨k + 1, by omega, by go_num, by rw [w_shr, halves, H1.out]⟩
        case measure => simp [intOf]; omega
    · obtain rfl : k = 8 := by omega
      go_wp2
      go_ret
      exact ⟨rfl, rfl⟩
theorem crcStepZ (b : UInt8) (W : World) :
    Calls Tryz.prog 146 #[.int .u32 0, .int .u8 (b.toNat : Int)] W fun e W' => e = .returned (.int .u32 ((stepW 0#32 b).toNat : Int)) ∧ W' = W := crcStep0 0#32 b W

/-- A table of words that have been made, or not yet: 256 cells of a block of the call's own. -/
structure Tab (W : World) (g : Nat) : Prop where
  lt : g < W.heap.size
  free : ∀ j, j < 256 → W.frozen? ⟨g, j, none⟩ = false
  held : ∀ b : UInt8, W.cell? ⟨g, b.toNat, none⟩ = some (.int .u32 0) ∨ W.cell? ⟨g, b.toNat, none⟩ = some (.int .u32 ((stepW 0#32 b).toNat : Int))
theorem Tab.store {W : World} {g : Nat} (h : Tab W g) (b : UInt8) : Tab (W.setCell ⟨g, b.toNat, none⟩ (.int .u32 ((stepW 0#32 b).toNat : Int))) g := by
  refine ⟨by rw [World.size_setCell]; exact h.lt, fun j hj => by rw [World.frozen?_setCell]; exact h.free j hj, fun b' => ?_⟩
  by_cases e : b.toNat = b'.toNat
  · have e' : b = b' := UInt8.toNat_inj.1 e
    subst e'
    right
    rcases h.held b with hc | hc
    · exact World.cell?_setCell_same _ _ _ hc
    · exact World.cell?_setCell_same _ _ _ hc
  · have hne : (⟨g, b.toNat, none⟩ : Addr) ≠ ⟨g, b'.toNat, none⟩ := fun h => e (congrArg Addr.off h)
    rw [World.cell?_setCell_other _ _ _ _ hne]
    exact h.held b'

set_option maxRecDepth 100000 in
set_option maxHeartbeats 1000000 in
theorem crcWord (g : Nat) (b : UInt8) (W : World) (h : Tab W g) :
    Calls Tryz.prog 145 #[.int .u8 (b.toNat : Int), .pointer (some ⟨g, 0, none⟩)] W fun e W' =>
      e = .returned (.int .u32 ((stepW 0#32 b).toNat : Int)) ∧ (W' = W ∨ W' = W.setCell ⟨g, b.toNat, none⟩ (.int .u32 ((stepW 0#32 b).toNat : Int))) := by
  have hb := b.toNat_lt
  have hf := h.free b.toNat hb
  have hv : b.toNat < 256 := hb
  have hx := (stepW 0#32 b).isLt
  rcases h.held b with hc | hc
  all_goals
    go_enter Tryz.func145, Tryz.ntmps145
    go_wp2_with fail
    all_goals first
      | (refine (crcStepZ b _).mono ?_
         rintro e w' ⟨rfl, rfl⟩
         go_wp2
         go_ret
         exact ⟨rfl, Or.inr rfl⟩)
      | (go_ret; exact ⟨rfl, Or.inl rfl⟩)

theorem Tab.back {W W' : World} {g : Nat} {b : UInt8} (h : Tab W g) (k : W' = W ∨ W' = W.setCell ⟨g, b.toNat, none⟩ (.int .u32 ((stepW 0#32 b).toNat : Int))) : Tab W' g ∧ Below g W W' ∧ W'.heap.size = W.heap.size := by
  rcases k with rfl | rfl
  · exact ⟨h, Below.refl _ _, rfl⟩
  · exact ⟨h.store b, (Below.refl g W).setCell (p := ⟨g, b.toNat, none⟩) (Nat.le_refl g) _, World.size_setCell _ _ _⟩

def tab0 : Array Value := Array.replicate 256 (.int .u32 0)
theorem zeroTab (w : World) : (zeroValue 200).run Tryz.prog w = .ok (.agg tab0) w := by kernel_rfl
theorem Tab.new (W : World) (e : TypeId) : Tab (W.alloc (.cells tab0 e)) W.heap.size := by
  refine ⟨by simp, fun j hj => frozen_of_row _ _ j _ _ (World.alloc_heap_new W _), fun b => Or.inl ?_⟩
  have hb : b.toNat < 256 := b.toNat_lt
  rw [cell_of_row _ W.heap.size _ _ _ (0, 0) (World.alloc_heap_new W _)]
  simp [tab0, hb]

set_option maxRecDepth 100000 in
set_option maxHeartbeats 1000000 in
theorem crcWords (W : World) :
    Calls Tryz.prog 144 #[] W fun e W' => e = .returned (.func (.func 145) #[] #[.pointer (some ⟨W.heap.size, 0, none⟩)]) ∧ Tab W' W.heap.size ∧ Below W.heap.size W W' := by
  go_enter Tryz.func144, Tryz.ntmps144
  go_wp2_with fail
  first
  | (rw [zeroTab]
     go_wp2
     go_ret
     exact ⟨rfl, Tab.new W _, (Below.refl _ _).alloc (Nat.le_refl _) _⟩)
  | (rw [show Tryz.zeroCells200 = tab0 from by kernel_rfl]
     go_ret
     exact ⟨rfl, Tab.new W _, (Below.refl _ _).alloc (Nat.le_refl _) _⟩)

set_option maxRecDepth 100000 in
set_option maxHeartbeats 1000000 in
theorem crcSum (s : ByteArray) (W : World) (hs : s.size ≤ maxLen) :
    Calls Tryz.prog 140 #[.string s] W fun e W' => e = .returned (.int .u32 (sumT s)) ∧ Below W.heap.size W W' := by
  unfold maxLen at hs
  go_enter Tryz.func140, Tryz.ntmps140
  go_wp2_with fail
  refine (crcWords _).mono ?_
  rintro e W1 ⟨rfl, hT, hB⟩
  go_wp2
  go_loopw [4, 9] (fun v i w => ∃ k : Nat, k ≤ s.size ∧ i = .int .i64 k ∧ v = .int .u32 ((foldW 0xFFFFFFFF#32 ((bl s).take k)).toNat : Int) ∧ Tab w W.heap.size ∧ Below W.heap.size W w)
    (fun _ i _ => s.size - (intOf i).toNat)
  case atStart => exact ⟨0, by omega, rfl, rfl, hT, hB⟩
  case round =>
    obtain ⟨k, hk, rfl, rfl, hTr, hBr⟩ := hrel
    clear hT hB
    by_cases hlt : k < s.size
    · have H1 := Lib.hid (show foldW 0xFFFFFFFF#32 ((bl s).take (k + 1)) = (foldW 0xFFFFFFFF#32 ((bl s).take k) >>> 8) ^^^ stepW 0#32 (bxor (lowB (foldW 0xFFFFFFFF#32 ((bl s).take k))) s[k]) from by
        rw [List.take_succ_eq_append_getElem (by rw [bl_length]; exact hlt), foldW_snoc, ← step_word]; rfl)
      go_wp2_with fail
      rw [w_low, b8_xor]
      refine (crcWord _ _ _ hTr).mono ?_
      rintro e w' ⟨rfl, hw⟩
      obtain ⟨hT', hB', hS'⟩ := hTr.back hw
      have hB2 : Below W.heap.size W w' := hBr.trans hB'
      clear hw hTr hBr hB' hS'
      go_wp2
      go_roundw
      case rel => exact ⟨k + 1, by omega, by go_num, by rw [H1.out, w_shr8, w_xor]; rfl, hT', hB2⟩
      case measure => simp [intOf]; omega
    · obtain rfl : k = s.size := by omega
      have H2 := Lib.hid (show ((wx (foldW 0xFFFFFFFF#32 ((bl s).take s.size)) 0xFFFFFFFF#32).toNat : Int) = sumT s from by
        rw [← bl_length s, List.take_length]; rfl)
      go_wp2
      go_ret
      exact ⟨ret_int H2.out, hBr⟩

theorem crcStep (c : BitVec 32) (b : UInt8) (W : World) :
    Calls Tryz.prog 146 #[.int .u32 (c.toNat : Int), .int .u8 (b.toNat : Int)] W fun e W' => e = .returned (.int .u32 ((stepW c b).toNat : Int)) ∧ Below W.heap.size W W' :=
  (crcStep0 c b W).mono fun e W' ⟨h, k⟩ => ⟨h, k ▸ Below.refl _ _⟩
end Go.Proofs.YthmpjoiifglbjaaGreat

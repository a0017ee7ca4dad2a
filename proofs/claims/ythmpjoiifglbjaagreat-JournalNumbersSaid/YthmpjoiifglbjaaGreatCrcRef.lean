/- The walks of the reference's functions of layer 2: contracts only. -/
import Derived.Test.YthmpjoiifglbjaaGreatRows
import Derived.WalkKit
import Derived.ProofKit
import Derived.OpenShut
import Derived.BigQuiet
import Derived.Deep.QuietTactic
import Derived.Lib.Hide
import Derived.Maps.AppendAt
import Derived.Deep.RegionLaw
import Derived.Test.YthmpjoiifglbjaaGreatBase
import Derived.Test.YthmpjoiifglbjaaGreatCrcPlain
namespace Go.Proofs.YthmpjoiifglbjaaGreat
open Go.RowKit
set_option linter.unusedVariables false

def wx (a b : BitVec 32) : BitVec 32 := a ^^^ b
def lsb (a : BitVec 32) : Nat := (a.getLsbD 0).toNat
theorem w_xor (a b : BitVec 32) : bits .xor .u32 (a.toNat : Int) (b.toNat : Int) = ((wx a b).toNat : Int) := by
  rw [u32_xor_nat _ _ a.isLt b.isLt, wx, BitVec.toNat_xor]
theorem w_xor8 (a : BitVec 32) (b : UInt8) : bits .xor .u32 (a.toNat : Int) (b.toNat : Int) = ((wx a (z8 b)).toNat : Int) := by
  have hb := b.toNat_lt
  have h : (z8 b).toNat = b.toNat := by rw [z8, BitVec.toNat_ofNat, Nat.mod_eq_of_lt (by omega)]
  rw [← w_xor, h]

theorem w_lsb (a : BitVec 32) : bits .and .u32 (a.toNat : Int) 1 = ((lsb a : Nat) : Int) := by
  rw [show (1 : Int) = ((1 : Nat) : Int) from rfl, u32_and_nat _ _ a.isLt (by decide), nat_mask1, lsb]
  rw [BitVec.getLsbD, Nat.testBit_zero]
  rcases Nat.mod_two_eq_zero_or_one a.toNat with h | h <;> rw [h] <;> rfl
theorem w_shr (a : BitVec 32) : ((a.toNat : Int) / (2 : Int) : Int) = ((a >>> 1).toNat : Int) := by
  rw [BitVec.toNat_ushiftRight, Nat.shiftRight_eq_div_pow]; rfl
theorem w_poly (a : BitVec 32) : bits .xor .u32 (a.toNat : Int) 3988292384 = ((a ^^^ 0xEDB88320#32).toNat : Int) := by
  have := w_xor a 0xEDB88320#32
  exact this
theorem w_all (a : BitVec 32) : bits .xor .u32 (a.toNat : Int) 4294967295 = ((wx a 0xFFFFFFFF#32).toNat : Int) := by
  have := w_xor a 0xFFFFFFFF#32
  exact this
theorem half_of_one {a : BitVec 32} (h : lsb a = 1) : half a = (a >>> 1) ^^^ 0xEDB88320#32 := by
  unfold lsb at h; unfold half
  cases h0 : a.getLsbD 0 with
  | false => rw [h0] at h; cases h
  | true => rfl
theorem half_of_none {a : BitVec 32} (h : ¬ lsb a = 1) : half a = a >>> 1 := by
  unfold lsb at h; unfold half
  cases h0 : a.getLsbD 0 with
  | false => rfl
  | true => rw [h0] at h; exact absurd rfl h
attribute [local go_sem] w_xor8 w_lsb w_all

set_option maxRecDepth 100000 in
set_option maxHeartbeats 1000000 in
theorem refStep (c : BitVec 32) (b : UInt8) (W : World) :
    Calls Tryz.prog 126 #[.int .u32 (c.toNat : Int), .int .u8 (b.toNat : Int)] W fun e W' => e = .returned (.int .u32 ((stepW c b).toNat : Int)) ∧ W' = W := by
  have hc := c.isLt
  have hb := b.toNat_lt
  go_enter Tryz.func126, Tryz.ntmps126
  go_wp2
  go_loop [0, 5] (fun v i => ∃ k : Nat, k ≤ 8 ∧ i = .int .i64 k ∧ v = .int .u32 ((halves k (wx c (z8 b))).toNat : Int))
    (fun _ i => 8 - (intOf i).toNat)
  case atStart => exact ⟨0, by omega, rfl, rfl⟩
  case round =>
    obtain ⟨k, hk, rfl, rfl⟩ := hrel
    have hx := (halves k (wx c (z8 b))).isLt
    by_cases hlt : k < 8
    · by_cases h1 : lsb (halves k (wx c (z8 b))) = 1
      · have H1 := Lib.hid (half_of_one h1)
        have h2 : (((lsb (halves k (wx c (z8 b))) : Nat) : Int) == 1) = true := by rw [h1]; rfl
        clear h1
        go_wp2
        go_round
        case rel => exact ⟨k + 1, by omega, by go_num, by rw [w_shr, w_poly, halves, H1.out]⟩
        case measure => simp [intOf]; omega
      · have H1 := Lib.hid (half_of_none h1)
        have h2 : (((lsb (halves k (wx c (z8 b))) : Nat) : Int) == 1) = false := beq_eq_false_iff_ne.2 (fun h => h1 (by omega))
        clear h1
        go_wp2
        go_round
        case rel => exact ⟨k + 1, by omega, by go_num, by rw [w_shr, halves, H1.out]⟩
        case measure => simp [intOf]; omega
    · obtain rfl : k = 8 := by omega
      go_wp2
      go_ret
      exact ⟨rfl, rfl⟩

/-- The sum of a text. -/
def sumT (s : ByteArray) : Int := ((sumW (bl s)).toNat : Int)

set_option maxRecDepth 100000 in
set_option maxHeartbeats 1000000 in
theorem refSum (s : ByteArray) (W : World) (hs : s.size ≤ maxLen) :
    Calls Tryz.prog 98 #[.string s] W fun e W' => e = .returned (.int .u32 (sumT s)) ∧ W' = W := by
  unfold maxLen at hs
  go_enter Tryz.func98, Tryz.ntmps98
  go_wp2
  go_loop [3, 4] (fun v i => ∃ k : Nat, k ≤ s.size ∧ i = .int .i64 k ∧ v = .int .u32 ((foldW 0xFFFFFFFF#32 ((bl s).take k)).toNat : Int))
    (fun _ i => s.size - (intOf i).toNat)
  case atStart => exact ⟨0, by omega, rfl, rfl⟩
  case round =>
    obtain ⟨k, hk, rfl, rfl⟩ := hrel
    by_cases hlt : k < s.size
    · have H1 := Lib.hid (show foldW 0xFFFFFFFF#32 ((bl s).take (k + 1)) = stepW (foldW 0xFFFFFFFF#32 ((bl s).take k)) s[k] from by
        rw [List.take_succ_eq_append_getElem (by rw [bl_length]; exact hlt), foldW_snoc]; rfl)
      go_wp2_with fail
      refine (refStep _ _ _).mono ?_
      rintro e w' ⟨rfl, rfl⟩
      go_wp2
      go_round
      case rel => exact ⟨k + 1, by omega, by go_num, by rw [H1.out]⟩
      case measure => simp [intOf]; omega
    · obtain rfl : k = s.size := by omega
      have H2 := Lib.hid (show ((wx (foldW 0xFFFFFFFF#32 ((bl s).take s.size)) 0xFFFFFFFF#32).toNat : Int) = sumT s from by
        rw [← bl_length s, List.take_length]; rfl)
      go_wp2
      go_ret
      exact ⟨ret_int H2.out, rfl⟩

/-- The ends of the part of a text that is asked for. -/
def hiI (s : ByteArray) (t : Int) : Nat := min t.toNat s.size
def rangeT (s : ByteArray) (f t : Int) : Int := if hiI s t ≤ f.toNat then 0 else sumT (s.extract f.toNat (hiI s t))
theorem rangeT_none {s : ByteArray} {f t : Int} (h : hiI s t ≤ f.toNat) : rangeT s f t = 0 := if_pos h
theorem rangeT_some {s : ByteArray} {f t : Int} {a b : Nat} (h : ¬ hiI s t ≤ f.toNat) (ha : f.toNat = a) (hb : hiI s t = b) : rangeT s f t = sumT (s.extract a b) := by
  subst ha; subst hb; exact if_neg h
theorem extract_all (s : ByteArray) : s.extract 0 s.size = s := by simp

end Go.Proofs.YthmpjoiifglbjaaGreat

/- The walks of the reference's functions of layer 2: contracts only. -/
import Derived.Test.YthmpjoiifglbjaaRows
import Derived.WalkKit
import Derived.ProofKit
import Derived.OpenShut
import Derived.BigQuiet
import Derived.Deep.QuietTactic
import Derived.Lib.Hide
import Derived.Maps.AppendAt
import Derived.Deep.RegionLaw
import Derived.Test.YthmpjoiifglbjaaBase
import Derived.Test.YthmpjoiifglbjaaCrcPlain
namespace Go.Proofs.Ythmpjoiifglbjaa
open Go.RowKit
set_option linter.unusedVariables false

def wx (a b : BitVec 32) : BitVec 32 := a ^^^ b
def lsb (a : BitVec 32) : Nat := (a.getLsbD 0).toNat
theorem w_xor (a b : BitVec 32) : bits .xor .u32 (a.toNat : Int) (b.toNat : Int) = ((wx a b).toNat : Int) := by
  rw [u32_xor_nat _ _ a.isLt b.isLt, wx, BitVec.toNat_xor]
theorem w_xor8 (a : BitVec 32) (b : UInt8) : bits .xor .u32 (a.toNat : Int) (b.toNat : Int) = ((wx a (z8 b)).toNat : Int) := by
  have hb := b.toNat_lt
  have h : (z8 b).toNat = b.toNat := by rw [z8, BitVec.toNat_ofNat, Nat.mod_eq_of_lt (by omega)]
  rw [← w_xor, h]

theorem w_lsb (a : BitVec 32) : bits .and .u32 (a.toNat : Int) 1 = ((lsb a : Nat) : Int) := by
  rw [show (1 : Int) = ((1 : Nat) : Int) from rfl, u32_and_nat _ _ a.isLt (by decide), nat_mask1, lsb]
  rw [BitVec.getLsbD, Nat.testBit_zero]
  rcases Nat.mod_two_eq_zero_or_one a.toNat with h | h <;> rw [h] <;> rfl
theorem w_shr (a : BitVec 32) : ((a.toNat : Int) / (2 : Int) : Int) = ((a >>> 1).toNat : Int) := by
  rw [BitVec.toNat_ushiftRight, Nat.shiftRight_eq_div_pow]; rfl
theorem w_poly (a : BitVec 32) : bits .xor .u32 (a.toNat : Int) 3988292384 = ((a ^^^ 0xEDB88320#32).toNat : Int) := by
  have := w_xor a 0xEDB88320#32
  exact this
theorem w_all (a : BitVec 32) : bits .xor .u32 (a.toNat : Int) 4294967295 = ((wx a 0xFFFFFFFF#32).toNat : Int) := by
  have := w_xor a 0xFFFFFFFF#32
  exact this
theorem half_of_one {a : BitVec 32} (h : lsb a = 1) : half a = (a >>> 1) ^^^ 0xEDB88320#32 := by
  unfold lsb at h; unfold half
  cases h0 : a.getLsbD 0 with
  | false => rw [h0] at h; cases h
  | true => rfl
theorem half_of_none {a : BitVec 32} (h : ¬ lsb a = 1) : half a = a >>> 1 := by
  unfold lsb at h; unfold half
  cases h0 : a.getLsbD 0 with
  | false => rfl
  | true => rw [h0] at h; exact absurd rfl h
attribute [local go_sem] w_xor8 w_lsb w_all

/-- The sum of a text. -/
def sumT (s : ByteArray) : Int := ((sumW (bl s)).toNat : Int)

/-- The ends of the part of a text that is asked for. -/
def hiI (s : ByteArray) (t : Int) : Nat := min t.toNat s.size
def rangeT (s : ByteArray) (f t : Int) : Int := if hiI s t ≤ f.toNat then 0 else sumT (s.extract f.toNat (hiI s t))
theorem rangeT_none {s : ByteArray} {f t : Int} (h : hiI s t ≤ f.toNat) : rangeT s f t = 0 := if_pos h
theorem rangeT_some {s : ByteArray} {f t : Int} {a b : Nat} (h : ¬ hiI s t ≤ f.toNat) (ha : f.toNat = a) (hb : hiI s t = b) : rangeT s f t = sumT (s.extract a b) := by
  subst ha; subst hb; exact if_neg h
theorem extract_all (s : ByteArray) : s.extract 0 s.size = s := by simp

end Go.Proofs.Ythmpjoiifglbjaa

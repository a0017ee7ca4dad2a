/- The walks of the reference's functions of layer 2: contracts only. -/
import Derived.Test.YthmpjoiifglbjaaRows
import Derived.Test.YthmpjoiifglbjaaFieldPlain
import Derived.Test.YthmpjoiifglbjaaInts
import Derived.WalkKit
import Derived.ProofKit
import Derived.Lib.Hide
import Derived.IntWalk
import Derived.OpenShut
import Derived.BigQuiet
import Derived.Deep.QuietTactic
import Derived.Maps.AppendAt
import Derived.Deep.RegionLaw
import Derived.Test.YthmpjoiifglbjaaBase
import Derived.Test.YthmpjoiifglbjaaCrcPlain
namespace Go.Proofs.Ythmpjoiifglbjaa
open Go.RowKit
set_option linter.unusedVariables false

theorem Try.info_u8f : (Try.prog.info? 5).map (fun i => (i.zero, i.size, i.bytes)) = some (some (.int .u8 0), 1, 1) := by kernel_rfl

/-- The number that bytes say, as far as it fits in 64 bits: behind a name that the walk does not open. -/
def getW (l : List UInt8) : Nat := getN l % 18446744073709551616
theorem getW_lt (l : List UInt8) : getW l < 18446744073709551616 := Nat.mod_lt _ (by decide)
theorem get_step (l : List UInt8) (b : UInt8) : bits .or .u64 (IntKind.u64.wrap ((getW l : Int) * 256)) (IntKind.u64.wrap (b.toNat : Int)) = (getW (l ++ [b]) : Int) := by
  have hb := b.toNat_lt
  have hl := getW_lt l
  have hw : IntKind.u64.wrap ((getW l : Int) * 256) = ((getW l * 256 % 18446744073709551616 : Nat) : Int) := by
    simp [IntKind.wrap, IntKind.signed, IntKind.bits]
  have hv : IntKind.u64.wrap (b.toNat : Int) = (b.toNat : Int) := by
    simp [IntKind.wrap, IntKind.signed, IntKind.bits]; omega
  rw [hw, hv, u64_or_nat _ _ (Nat.mod_lt _ (by decide)) (by omega)]
  have hm : getW l * 256 % 18446744073709551616 = 2 ^ 8 * (getW l % 72057594037927936) := by omega
  rw [hm, ← Nat.two_pow_add_eq_or_of_lt hb]
  unfold getW
  rw [getN_snoc]
  omega

theorem put_val (n k : Nat) : b8v (UInt8.ofNat (n / 256 ^ k)) = .int .u8 ((n : Int) / 2 ^ (8 * k) % 256) := by
  have h : (256 : Nat) ^ k = 2 ^ (8 * k) := by rw [Nat.pow_mul]
  unfold b8v
  rw [UInt8.toNat_ofNat', h]
  congr 1
theorem put_row (n W j : Nat) (h : j + 1 ≤ W) : putL (n / 256 ^ j) (W - j) = putL (n / 256 ^ (j + 1)) (W - (j + 1)) ++ [UInt8.ofNat (n / 256 ^ j)] := by
  rw [show W - j = (W - (j + 1)) + 1 from by omega, putL_split, Nat.pow_one, Nat.div_div_eq_div_mul, ← Nat.pow_succ]
  simp [putL]

end Go.Proofs.Ythmpjoiifglbjaa
namespace Go.Proofs.Ythmpjoiifglbjaa
open Go.RowKit
set_option linter.unusedVariables false

def wx (a b : BitVec 32) : BitVec 32 := a ^^^ b
def lsb (a : BitVec 32) : Nat := (a.getLsbD 0).toNat
theorem w_xor (a b : BitVec 32) : bits .xor .u32 (a.toNat : Int) (b.toNat : Int) = ((wx a b).toNat : Int) := by
  rw [u32_xor_nat _ _ a.isLt b.isLt, wx, BitVec.toNat_xor]
theorem w_xor8 (a : BitVec 32) (b : UInt8) : bits .xor .u32 (a.toNat : Int) (b.toNat : Int) = ((wx a (z8 b)).toNat : Int) := by
  have hb := b.toNat_lt
  have h : (z8 b).toNat = b.toNat := by rw [z8, BitVec.toNat_ofNat, Nat.mod_eq_of_lt (by omega)]
  rw [← w_xor, h]

theorem w_lsb (a : BitVec 32) : bits .and .u32 (a.toNat : Int) 1 = ((lsb a : Nat) : Int) := by
  rw [show (1 : Int) = ((1 : Nat) : Int) from rfl, u32_and_nat _ _ a.isLt (by decide), nat_mask1, lsb]
  rw [BitVec.getLsbD, Nat.testBit_zero]
  rcases Nat.mod_two_eq_zero_or_one a.toNat with h | h <;> rw [h] <;> rfl
theorem w_shr (a : BitVec 32) : ((a.toNat : Int) / (2 : Int) : Int) = ((a >>> 1).toNat : Int) := by
  rw [BitVec.toNat_ushiftRight, Nat.shiftRight_eq_div_pow]; rfl
theorem w_poly (a : BitVec 32) : bits .xor .u32 (a.toNat : Int) 3988292384 = ((a ^^^ 0xEDB88320#32).toNat : Int) := by
  have := w_xor a 0xEDB88320#32
  exact this
theorem w_all (a : BitVec 32) : bits .xor .u32 (a.toNat : Int) 4294967295 = ((wx a 0xFFFFFFFF#32).toNat : Int) := by
  have := w_xor a 0xFFFFFFFF#32
  exact this
theorem half_of_one {a : BitVec 32} (h : lsb a = 1) : half a = (a >>> 1) ^^^ 0xEDB88320#32 := by
  unfold lsb at h; unfold half
  cases h0 : a.getLsbD 0 with
  | false => rw [h0] at h; cases h
  | true => rfl
theorem half_of_none {a : BitVec 32} (h : ¬ lsb a = 1) : half a = a >>> 1 := by
  unfold lsb at h; unfold half
  cases h0 : a.getLsbD 0 with
  | false => rfl
  | true => rw [h0] at h; exact absurd rfl h
attribute [local go_sem] w_xor8 w_lsb w_all

/-- The sum of a text. -/
def sumT (s : ByteArray) : Int := ((sumW (bl s)).toNat : Int)

/-- The ends of the part of a text that is asked for. -/
def hiI (s : ByteArray) (t : Int) : Nat := min t.toNat s.size
def rangeT (s : ByteArray) (f t : Int) : Int := if hiI s t ≤ f.toNat then 0 else sumT (s.extract f.toNat (hiI s t))
theorem rangeT_none {s : ByteArray} {f t : Int} (h : hiI s t ≤ f.toNat) : rangeT s f t = 0 := if_pos h
theorem rangeT_some {s : ByteArray} {f t : Int} {a b : Nat} (h : ¬ hiI s t ≤ f.toNat) (ha : f.toNat = a) (hb : hiI s t = b) : rangeT s f t = sumT (s.extract a b) := by
  subst ha; subst hb; exact if_neg h
theorem extract_all (s : ByteArray) : s.extract 0 s.size = s := by simp

end Go.Proofs.Ythmpjoiifglbjaa

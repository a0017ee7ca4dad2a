/- The reference's functions of layer 6 that later layers call: contracts only. -/
import Derived.Test.YtdfacpppmfoiiaaRows
import Derived.Test.YtdfacpppmfoiiaaFieldPlain
import Derived.Test.YtdfacpppmfoiiaaInts
import Derived.WalkKit
import Derived.ProofKit
import Derived.Lib.Hide
import Derived.IntWalk
namespace Go.Proofs.Ytdfacpppmfoiiaa
open Go.RowKit
set_option linter.unusedVariables false

theorem Try.info_u8f : (Try.prog.info? 5).map (fun i => (i.zero, i.size, i.bytes)) = some (some (.int .u8 0), 1, 1) := by kernel_rfl

/-- The number that bytes say, as far as it fits in 64 bits: behind a name that the walk does not open. -/
def getW (l : List UInt8) : Nat := getN l % 18446744073709551616
theorem getW_lt (l : List UInt8) : getW l < 18446744073709551616 := Nat.mod_lt _ (by decide)
theorem get_step (l : List UInt8) (b : UInt8) : bits .or .u64 (IntKind.u64.wrap ((getW l : Int) * 256)) (IntKind.u64.wrap (b.toNat : Int)) = (getW (l ++ [b]) : Int) := by
  have hb := b.toNat_lt
  have hl := getW_lt l
  have hw : IntKind.u64.wrap ((getW l : Int) * 256) = ((getW l * 256 % 18446744073709551616 : Nat) : Int) := by
    simp [IntKind.wrap, IntKind.signed, IntKind.bits]
  have hv : IntKind.u64.wrap (b.toNat : Int) = (b.toNat : Int) := by
    simp [IntKind.wrap, IntKind.signed, IntKind.bits]; omega
  rw [hw, hv, u64_or_nat _ _ (Nat.mod_lt _ (by decide)) (by omega)]
  have hm : getW l * 256 % 18446744073709551616 = 2 ^ 8 * (getW l % 72057594037927936) := by omega
  rw [hm, ← Nat.two_pow_add_eq_or_of_lt hb]
  unfold getW
  rw [getN_snoc]
  omega

theorem put_val (n k : Nat) : b8v (UInt8.ofNat (n / 256 ^ k)) = .int .u8 ((n : Int) / 2 ^ (8 * k) % 256) := by
  have h : (256 : Nat) ^ k = 2 ^ (8 * k) := by rw [Nat.pow_mul]
  unfold b8v
  rw [UInt8.toNat_ofNat', h]
  congr 1
theorem put_row (n W j : Nat) (h : j + 1 ≤ W) : putL (n / 256 ^ j) (W - j) = putL (n / 256 ^ (j + 1)) (W - (j + 1)) ++ [UInt8.ofNat (n / 256 ^ j)] := by
  rw [show W - j = (W - (j + 1)) + 1 from by omega, putL_split, Nat.pow_one, Nat.div_div_eq_div_mul, ← Nat.pow_succ]
  simp [putL]

end Go.Proofs.Ytdfacpppmfoiiaa

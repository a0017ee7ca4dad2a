/- The program's Pack: contracts only. -/
import Derived.Test.YtdfacpppmfoiiaaStateOwnA
import Derived.WalkKit
import Derived.ProofKit
import Derived.OpenShut
import Derived.ChangeMaps5
import Derived.Carry
import Derived.OwnWalk
import Derived.Lib.Hide
import Derived.Deep.RegionHeld3
import Derived.BigQuiet
import Derived.Deep.QuietTactic
import Derived.Deep.CutRange
import Derived.WalkLawsBesides
import Derived.WalkSpells
import Derived.IntWalk
namespace Go.Proofs.Ytdfacpppmfoiiaa
open Go.RowKit
set_option linter.unusedVariables false
set_option linter.unusedSimpArgs false

/-- Two numbers whose bits lie apart. -/
theorem or_low {x y k : Nat} (h : y < 2 ^ k) (hl : x * 2 ^ k + y < 18446744073709551616) : bits .or .u64 ((x * 2 ^ k : Nat) : Int) (y : Int) = ((x * 2 ^ k + y : Nat) : Int) := by
  rw [u64_or_nat _ _ (by omega) (by omega), Nat.mul_comm, Nat.two_pow_add_eq_or_of_lt h]
theorem or_high {x y k : Nat} (h : y < 2 ^ k) (hl : x * 2 ^ k + y < 18446744073709551616) : bits .or .u64 (y : Int) ((x * 2 ^ k : Nat) : Int) = ((x * 2 ^ k + y : Nat) : Int) := by
  rw [u64_or_nat _ _ (by omega) (by omega), Nat.or_comm, Nat.mul_comm, Nat.two_pow_add_eq_or_of_lt h]
theorem u64_wrapO (x : Int) : IntKind.u64.wrap x = x % 18446744073709551616 := by simp [IntKind.wrap, IntKind.signed, IntKind.bits]
theorem and_low24 (v : Int) : bits .and .u64 (IntKind.u64.wrap v) 16777215 = ((low24 v : Nat) : Int) := by
  have h1 := u64_and_nat (u64N v) 16777215 (u64N_lt v) (by decide)
  have h2 : u64N v &&& 16777215 = u64N v % 16777216 := Nat.and_two_pow_sub_one_eq_mod _ 24
  rw [h2, show u64N v % 16777216 = low24 v from by unfold u64N low24; omega] at h1
  rw [u64_wrapO, ← u64N_cast]; exact h1

theorem pack_or {m a h i p q : Nat} (hm : m ≤ 5) (ha : a ≤ 1) (hh : h ≤ 1) (hi : i ≤ 15) (hp : p < 16777216) (hq : q < 16777216) :
    bits .or .u64 (bits .or .u64 (bits .or .u64 (bits .or .u64 (bits .or .u64 (IntKind.u64.wrap (IntKind.u64.wrap (m : Int) * 72057594037927936)) (IntKind.u64.wrap ((a : Int) * 576460752303423488))) (IntKind.u64.wrap ((h : Int) * 1152921504606846976))) (IntKind.u64.wrap (IntKind.u64.wrap (i : Int) * 281474976710656))) (IntKind.u64.wrap ((p : Int) * 16777216))) (IntKind.u64.wrap (q : Int)) = (((h * 16 + (a * 8 + m)) * 72057594037927936 + i * 281474976710656 + p * 16777216 + q : Nat) : Int) := by
  have e1 : IntKind.u64.wrap (IntKind.u64.wrap (m : Int) * 72057594037927936) = ((m * 2 ^ 56 : Nat) : Int) := by rw [u64_wrapO, u64_wrapO]; omega
  have e2 : IntKind.u64.wrap ((a : Int) * 576460752303423488) = ((a * 2 ^ 59 : Nat) : Int) := by rw [u64_wrapO]; omega
  have e3 : IntKind.u64.wrap ((h : Int) * 1152921504606846976) = ((h * 2 ^ 60 : Nat) : Int) := by rw [u64_wrapO]; omega
  have e4 : IntKind.u64.wrap (IntKind.u64.wrap (i : Int) * 281474976710656) = ((i * 2 ^ 48 : Nat) : Int) := by rw [u64_wrapO, u64_wrapO]; omega
  have e5 : IntKind.u64.wrap ((p : Int) * 16777216) = ((p * 2 ^ 24 : Nat) : Int) := by rw [u64_wrapO]; omega
  have e6 : IntKind.u64.wrap (q : Int) = (q : Int) := by rw [u64_wrapO]; omega
  rw [e1, e2, e3, e4, e5, e6, or_high (k := 59) (by omega) (by omega), or_high (k := 60) (by omega) (by omega),
    show h * 2 ^ 60 + (a * 2 ^ 59 + m * 2 ^ 56) = (h * 16 + (a * 8 + m)) * 2 ^ 56 from by omega, or_low (k := 56) (by omega) (by omega),
    show (h * 16 + (a * 8 + m)) * 2 ^ 56 + i * 2 ^ 48 = ((h * 16 + (a * 8 + m)) * 256 + i) * 2 ^ 48 from by omega, or_low (k := 48) (by omega) (by omega),
    show ((h * 16 + (a * 8 + m)) * 256 + i) * 2 ^ 48 + p * 2 ^ 24 = (((h * 16 + (a * 8 + m)) * 256 + i) * 16777216 + p) * 2 ^ 24 from by omega, or_low (k := 24) (by omega) (by omega)]

end Go.Proofs.Ytdfacpppmfoiiaa

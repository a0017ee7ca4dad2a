/- The reference's functions of layer 7: contracts only. -/
import Derived.Test.YtiacdcnpkfpjaaaGreatFieldRef
import Derived.Test.YtiacdcnpkfpjaaaGreatRecPlain
import Derived.Test.YtiacdcnpkfpjaaaGreatCrcRef
import Derived.Test.YtiacdcnpkfpjaaaGreatBox
import Derived.Deep.RegionHeld3
namespace Go.Proofs.YtiacdcnpkfpjaaaGreat
open Go.RowKit
set_option linter.unusedVariables false
set_option linter.unusedSimpArgs false

set_option maxRecDepth 100000 in
theorem ref07Mark (W : World) : Calls Tryz.prog 88 #[] W fun e W' => e = .returned (.string (bs markL)) ∧ Below W.heap.size W W' := by
  have hc := lit_string (P := Tryz.prog) (src := 83) (dst := 9) Tryz.underlying83 Tryz.underlying5 Tryz.underlying9 W [90, 60] 2 #[.int .u8 90, .int .u8 60] rfl
  rw [show ([90, 60] : List UInt8).length = 2 from rfl] at hc
  go_enter Tryz.func88, Tryz.ntmps88
  go_wp2
  go_ret
  exact ⟨rfl, (Below.refl _ _).alloc (Nat.le_refl _) _⟩

set_option maxRecDepth 100000 in
theorem ref07low (n : Nat) (hn : n < 4294967296) (W : World) : Calls Tryz.prog 86 #[.int .u32 (n : Int)] W fun e W' => e = .returned (.string (bs (low4 n))) ∧ Below W.heap.size W W' := by
  have hcs : (#[.int .u8 ((n : Int) % 256), .int .u8 ((n : Int) / 256 % 256), .int .u8 ((n : Int) / 65536 % 256), .int .u8 ((n : Int) / 16777216)] : Array Value) = ((low4 n).map b8v).toArray := by
    have h1 : ((UInt8.ofNat n).toNat : Int) = (n : Int) % 256 := by rw [UInt8.toNat_ofNat']; omega
    have h2 : ((UInt8.ofNat (n / 256)).toNat : Int) = (n : Int) / 256 % 256 := by rw [UInt8.toNat_ofNat']; omega
    have h3 : ((UInt8.ofNat (n / 65536)).toNat : Int) = (n : Int) / 65536 % 256 := by rw [UInt8.toNat_ofNat']; omega
    have h4 : ((UInt8.ofNat (n / 16777216)).toNat : Int) = (n : Int) / 16777216 := by rw [UInt8.toNat_ofNat']; omega
    simp only [low4, List.map_cons, List.map_nil, b8v, h1, h2, h3, h4]
  have hc := lit_string (P := Tryz.prog) (src := 83) (dst := 9) Tryz.underlying83 Tryz.underlying5 Tryz.underlying9 W (low4 n) 4 _ hcs
  rw [low4_length] at hc
  clear hcs
  go_enter Tryz.func86, Tryz.ntmps86
  go_wp2
  go_ret
  exact ⟨rfl, (Below.refl _ _).alloc (Nat.le_refl _) _⟩

end Go.Proofs.YtiacdcnpkfpjaaaGreat

/- A number's kind, told by what it ranges over; worlds one behind the other: no statement is proved here. -/
import Derived.WalkKit
import Derived.Below
namespace Go.Proofs.Ytokfglgghdeakaa
open Go.RowKit
theorem int_u8 {a : Int} (h : (Lit.int .u8 a).wf = true) : ∃ b : UInt8, a = (b.toNat : Int) := by
  have hx : 0 ≤ a ∧ a ≤ 255 := by simpa [Lit.wf, IntKind.min, IntKind.max, IntKind.signed, IntKind.bits] using h
  refine ⟨UInt8.ofNat a.toNat, ?_⟩
  rw [UInt8.toNat_ofNat']; omega
theorem int_u32 {a : Int} (h : (Lit.int .u32 a).wf = true) : ∃ b : BitVec 32, a = (b.toNat : Int) := by
  have hx : 0 ≤ a ∧ a ≤ 4294967295 := by simpa [Lit.wf, IntKind.min, IntKind.max, IntKind.signed, IntKind.bits] using h
  refine ⟨BitVec.ofNat 32 a.toNat, ?_⟩
  rw [BitVec.toNat_ofNat, Nat.mod_eq_of_lt (by omega)]; omega
theorem int_u64 {a : Int} (h : (Lit.int .u64 a).wf = true) : ∃ b : BitVec 64, a = (b.toNat : Int) := by
  have hx : 0 ≤ a ∧ a ≤ 18446744073709551615 := by simpa [Lit.wf, IntKind.min, IntKind.max, IntKind.signed, IntKind.bits] using h
  refine ⟨BitVec.ofNat 64 a.toNat, ?_⟩
  rw [BitVec.toNat_ofNat, Nat.mod_eq_of_lt (by omega)]; omega
theorem int_i64 {a : Int} (h : (Lit.int .i64 a).wf = true) : -9223372036854775808 ≤ a ∧ a ≤ 9223372036854775807 := by
  simpa [Lit.wf, IntKind.min, IntKind.max, IntKind.signed, IntKind.bits] using h
theorem below_seq {W W1 W2 : World} (h : Below W.heap.size W W1) (k : Below W1.heap.size W1 W2) : Below W.heap.size W W2 := h.trans (k.mono h.size)
theorem w64_u8 (x : UInt8) : wrap64 (x.toNat : Int) = (x.toNat : Int) := by
  have := x.toNat_lt; unfold wrap64; omega
theorem w64_u8_add (x y : UInt8) : wrap64 ((x.toNat : Int) + (y.toNat : Int)) = (x.toNat : Int) + (y.toNat : Int) := by
  have := x.toNat_lt; have := y.toNat_lt; unfold wrap64; omega
/-- A contract's result, told otherwise. -/
theorem calls_as {P : Program} {F : Nat} {a : Array Value} {W : World} {v v' : Value} (h : Calls P F a W fun e W' => e = .returned v ∧ Below W.heap.size W W') (hv : v = v') : Calls P F a W fun e W' => e = .returned v' ∧ Below W.heap.size W W' := hv ▸ h
theorem calls_as0 {P : Program} {F : Nat} {a : Array Value} {W : World} {v v' : Value} (h : Calls P F a W fun e W' => e = .returned v ∧ W' = W) (hv : v = v') : Calls P F a W fun e W' => e = .returned v' ∧ Below W.heap.size W W' :=
  h.mono fun _ _ ⟨k, l⟩ => ⟨hv ▸ k, l ▸ Below.refl _ _⟩
theorem val_int {k : IntKind} {a b : Int} (h : a = b) : Value.int k a = .int k b := by rw [h]
theorem val_bool {a b : Bool} (h : a = b) : Value.bool a = .bool b := by rw [h]
theorem val_str {a b : ByteArray} (h : a = b) : Value.string a = .string b := by rw [h]
end Go.Proofs.Ytokfglgghdeakaa

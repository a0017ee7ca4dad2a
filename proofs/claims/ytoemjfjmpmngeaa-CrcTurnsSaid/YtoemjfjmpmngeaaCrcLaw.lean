/- The laws' own helper of layer 2: a contract only. -/
import Derived.Test.YtoemjfjmpmngeaaCrcOwn
import Derived.Test.YtoemjfjmpmngeaaInts
namespace Go.Proofs.Ytoemjfjmpmngeaa
open Go.RowKit
set_option linter.unusedVariables false

theorem Try.info_u8 : (Try.prog.info? 5).map (fun i => (i.zero, i.size, i.bytes)) = some (some (.int .u8 0), 1, 1) := by kernel_rfl

set_option maxRecDepth 100000 in
set_option maxHeartbeats 2000000 in
theorem shown2 (W : World) : Calls Try.prog 25 #[] W fun e W' => e = .returned (.bool true) ∧ Below W.heap.size W W' := by
  have t1 : ∀ W, Calls Try.prog 26 #[.string ⟨#[49, 50, 51, 52, 53, 54, 55, 56, 57]⟩] W fun e W' => e = .returned (.int .u32 3421780262) ∧ Below W.heap.size W W' := fun W => by
    have h := crcSum ⟨#[49, 50, 51, 52, 53, 54, 55, 56, 57]⟩ W (by decide)
    rwa [show sumT ⟨#[49, 50, 51, 52, 53, 54, 55, 56, 57]⟩ = 3421780262 from by kernel_rfl] at h
  have t2 : ∀ W, Calls Try.prog 26 #[.string ⟨#[]⟩] W fun e W' => e = .returned (.int .u32 0) ∧ Below W.heap.size W W' := fun W => by
    have h := crcSum ⟨#[]⟩ W (by decide)
    rwa [show sumT ⟨#[]⟩ = 0 from by kernel_rfl] at h
  have t3 : ∀ W, Calls Try.prog 30 #[.string ⟨#[120, 49, 50, 51, 52, 53, 54, 55, 56, 57, 121]⟩, .int .i64 1, .int .i64 10] W fun e W' => e = .returned (.int .u32 3421780262) ∧ Below W.heap.size W W' := fun W => by
    have h := crcRange ⟨#[120, 49, 50, 51, 52, 53, 54, 55, 56, 57, 121]⟩ 1 10 W (by decide)
    rwa [show rangeT ⟨#[120, 49, 50, 51, 52, 53, 54, 55, 56, 57, 121]⟩ 1 10 = 3421780262 from by kernel_rfl] at h
  have t4 : ∀ W, Calls Try.prog 30 #[.string ⟨#[97, 98, 99]⟩, .int .i64 2, .int .i64 1] W fun e W' => e = .returned (.int .u32 0) ∧ Below W.heap.size W W' := fun W => by
    have h := crcRange ⟨#[97, 98, 99]⟩ 2 1 W (by decide)
    rwa [show rangeT ⟨#[97, 98, 99]⟩ 2 1 = 0 from by kernel_rfl] at h
  have T1 := Lib.hid t1
  have T2 := Lib.hid t2
  have T3 := Lib.hid t3
  have T4 := Lib.hid t4
  clear t1 t2 t3 t4
  go_enter Try.func25, Try.ntmps25
  go_wp2_with fail
  refine (T1.out _).mono ?_
  rintro e W1 ⟨rfl, h1⟩
  go_wp2_with fail
  refine (T2.out _).mono ?_
  rintro e W2 ⟨rfl, h2⟩
  replace h1 := below_seq h1 h2
  go_wp2_with fail
  refine (T3.out _).mono ?_
  rintro e W3 ⟨rfl, h3⟩
  replace h1 := below_seq h1 h3
  go_wp2_with fail
  refine (T4.out _).mono ?_
  rintro e W4 ⟨rfl, h4⟩
  replace h1 := below_seq h1 h4
  go_wp2
  go_ret
  exact ⟨rfl, h1⟩
theorem sumT_inj {a b : ByteArray} : sumT a = sumT b ↔ sumW (bl a) = sumW (bl b) := by
  unfold sumT
  constructor
  · intro h; exact BitVec.eq_of_toNat_eq (by omega)
  · intro h; rw [h]
theorem sumT_burst (l w v r : List UInt8) (a b : ByteArray) (ha : bl a = l ++ w ++ r) (hb : bl b = l ++ v ++ r) (hw : w.length ≤ 4) (hv : v.length = w.length) : sumT a = sumT b ↔ w = v := by
  rw [sumT_inj, ha, hb]; exact sumW_burst l w v r hw hv
theorem beq_of_iff {a b c d : Int} (h : a = b ↔ c = d) : (a == b) = (c == d) := by
  by_cases e : a = b
  · rw [beq_iff_eq.2 e, beq_iff_eq.2 (h.1 e)]
  · rw [beq_eq_false_iff_ne.2 e, beq_eq_false_iff_ne.2 (fun k => e (h.2 k))]
end Go.Proofs.Ytoemjfjmpmngeaa

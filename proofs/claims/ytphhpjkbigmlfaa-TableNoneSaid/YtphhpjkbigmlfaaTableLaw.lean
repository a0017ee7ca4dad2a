/- The laws' own helpers of layer 15: contracts only. -/
import Derived.Test.YtphhpjkbigmlfaaRows
import Derived.Test.YtphhpjkbigmlfaaTableOwn
import Derived.Test.YtphhpjkbigmlfaaIntsAt
import Derived.Test.YtphhpjkbigmlfaaInts
import Derived.Test.YtphhpjkbigmlfaaBase
import Derived.Test.YtphhpjkbigmlfaaBox
import Derived.WalkKit
import Derived.ProofKit
import Derived.Lib.Hide
import Derived.Deep.RegionHeld3
import Derived.WalkLawsBesides
import Derived.WalkSpells
import Derived.IntWalk
namespace Go.Proofs.Ytphhpjkbigmlfaa
open Go.RowKit
set_option linter.unusedVariables false
set_option linter.unusedSimpArgs false

theorem IntsAt.cellAt {W : World} {g off : Nat} {l : List Int} (h : IntsAt W (some ⟨g, off, none⟩) l) {k : Nat} {v : Int} (hk : l[k]? = some v) : W.cell? ⟨g, off + k, none⟩ = some (.int .i64 v) := by
  obtain ⟨g', off', e, hc⟩ := h.at hk
  cases e; exact hc

set_option maxRecDepth 100000 in
set_option maxHeartbeats 8000000 in
theorem shown15 (W : World) : Calls Try.prog 19 #[] W fun e W' => e = .returned (.bool true) ∧ Below W.heap.size W W' := by
  have TW := Lib.hid (fun (W : World) => (show Calls Try.prog 17 #[.int .i64 4] W fun e W' => ∃ A c, e = .returned (.slice A 4 c) ∧ IntsAt W' A ([1, 2, 4, 5] : List Int) ∧ Below W.heap.size W W' from own15Ways 4 W (by decide)))
  have A1 := Lib.hid (fun (W : World) => (show Calls Try.prog 8 #[.int .i64 0, .int .i64 3] W fun e W' => e = .returned (.bool false) ∧ Below W.heap.size W W' from own15Way 0 3 W (by decide) (by decide)))
  have A2 := Lib.hid (fun (W : World) => (show Calls Try.prog 8 #[.int .i64 1, .int .i64 3] W fun e W' => e = .returned (.bool true) ∧ Below W.heap.size W W' from own15Way 1 3 W (by decide) (by decide)))
  have A3 := Lib.hid (fun (W : World) => (show Calls Try.prog 10 #[.int .i64 3] W fun e W' => e = .returned (.int .i64 3) ∧ Below W.heap.size W W' from own15Needs 3 W (by decide)))
  have A4 := Lib.hid (fun (W : World) => (show Calls Try.prog 12 #[.int .i64 4] W fun e W' => e = .returned (.bool true) ∧ Below W.heap.size W W' from own15Home 4 W (by decide)))
  have A5 := Lib.hid (fun (W : World) => (show Calls Try.prog 12 #[.int .i64 5] W fun e W' => e = .returned (.bool false) ∧ Below W.heap.size W W' from own15Home 5 W (by decide)))
  have A6 := Lib.hid (fun (W : World) => (show Calls Try.prog 14 #[.int .i64 5] W fun e W' => e = .returned (.bool true) ∧ Below W.heap.size W W' from own15Flying 5 W (by decide)))
  have A7 := Lib.hid (fun (W : World) => (show Calls Try.prog 14 #[.int .i64 0] W fun e W' => e = .returned (.bool false) ∧ Below W.heap.size W W' from own15Flying 0 W (by decide)))
  have A8 := Lib.hid (fun (W : World) => (show Calls Try.prog 8 #[.int .i64 6, .int .i64 6] W fun e W' => e = .returned (.bool false) ∧ Below W.heap.size W W' from own15Way 6 6 W (by decide) (by decide)))
  have hB : Below W.heap.size W W := Below.refl _ _
  go_enter Try.func19, Try.ntmps19
  go_wp2_with fail
  refine (TW.out _).mono ?_
  rintro e V1 ⟨A, c, rfl, hI, hk⟩
  replace hB := below_seq hB hk
  clear hk
  obtain ⟨g, off, hA, _⟩ := hI (by decide)
  subst hA
  go_wp2_with fail
  refine (A1.out _).mono ?_
  rintro e V2 ⟨rfl, hk⟩
  replace hB := below_seq hB hk
  replace hI := hI.seq hk
  clear hk
  go_wp2_with fail
  refine (A2.out _).mono ?_
  rintro e V3 ⟨rfl, hk⟩
  replace hB := below_seq hB hk
  replace hI := hI.seq hk
  clear hk
  have l0 := hI.cellAt (k := 0) rfl
  have l3 := hI.cellAt (k := 3) rfl
  rw [Nat.add_zero] at l0
  go_wp2_with fail
  refine (A3.out _).mono ?_
  rintro e V4 ⟨rfl, hk⟩
  replace hB := below_seq hB hk
  replace hI := hI.seq hk
  clear hk
  clear l0 l3
  go_wp2_with fail
  refine (A4.out _).mono ?_
  rintro e V5 ⟨rfl, hk⟩
  replace hB := below_seq hB hk
  replace hI := hI.seq hk
  clear hk
  go_wp2_with fail
  refine (A5.out _).mono ?_
  rintro e V6 ⟨rfl, hk⟩
  replace hB := below_seq hB hk
  replace hI := hI.seq hk
  clear hk
  go_wp2_with fail
  refine (A6.out _).mono ?_
  rintro e V7 ⟨rfl, hk⟩
  replace hB := below_seq hB hk
  replace hI := hI.seq hk
  clear hk
  go_wp2_with fail
  refine (A7.out _).mono ?_
  rintro e V8 ⟨rfl, hk⟩
  replace hB := below_seq hB hk
  replace hI := hI.seq hk
  clear hk
  go_wp2_with fail
  refine (A8.out _).mono ?_
  rintro e V9 ⟨rfl, hk⟩
  replace hB := below_seq hB hk
  replace hI := hI.seq hk
  clear hk
  go_wp2
  go_ret
  exact ⟨rfl, hB⟩

end Go.Proofs.Ytphhpjkbigmlfaa

/- The program's own functions of layer 15: contracts only. -/
import Derived.Test.YtdfacpppmfoiiaaRows
import Derived.Test.YtdfacpppmfoiiaaTablePlain
import Derived.Test.YtdfacpppmfoiiaaIntsAt
import Derived.Test.YtdfacpppmfoiiaaIntsOwn
import Derived.Test.YtdfacpppmfoiiaaInts
import Derived.Test.YtdfacpppmfoiiaaBase
import Derived.Test.YtdfacpppmfoiiaaBs
import Derived.WalkKit
import Derived.ProofKit
import Derived.OwnWalk
import Derived.RangeFuncBox
import Derived.Lib.Hide
import Derived.Deep.RegionHeld3
import Derived.Deep.WholeRow
import Derived.WalkLawsBesides
import Derived.WalkSpells
import Derived.IntWalk
namespace Go.Proofs.Ytdfacpppmfoiiaa
open Go.RowKit
set_option linter.unusedVariables false
set_option linter.unusedSimpArgs false

set_option maxRecDepth 100000 in
set_option maxHeartbeats 8000000 in
theorem own15is (m : Int) (W : World) : Calls Try.prog 40 #[.int .i64 m] W fun e W' => e = .returned (.bool (modeB m)) ∧ W' = W := by
  by_cases h1 : m ≥ 0
  · have d1 : decide (0 ≤ m) = true := decide_eq_true h1
    by_cases h2 : m ≤ 5
    · have d2 : decide (m < 6) = true := decide_eq_true (by omega)
      rw [show modeB m = true from decide_eq_true ⟨h1, h2⟩]
      clear h1 h2
      go_enter Try.func40, Try.ntmps40
      go_wp2; go_ret; exact ⟨rfl, rfl⟩
    · have d2 : decide (m < 6) = false := decide_eq_false (by omega)
      rw [show modeB m = false from decide_eq_false (fun k => h2 k.2)]
      clear h1 h2
      go_enter Try.func40, Try.ntmps40
      go_wp2; go_ret; exact ⟨rfl, rfl⟩
  · have d1 : decide (0 ≤ m) = false := decide_eq_false h1
    rw [show modeB m = false from decide_eq_false (fun k => h1 k.1)]
    clear h1
    go_enter Try.func40, Try.ntmps40
    go_wp2; go_ret; exact ⟨rfl, rfl⟩

/-- The table's cells, one mode's behind the other's. -/
def tabL : List Value := [.bool false, .bool true, .bool false, .bool false, .bool false, .bool false, .int .i64 0, .bool false, .bool true, .bool false, .bool true, .bool true, .bool true, .bool true, .int .i64 1, .bool false, .bool false, .bool true, .bool false, .bool true, .bool true, .bool true, .int .i64 2, .bool false, .bool false, .bool true, .bool true, .bool false, .bool true, .bool true, .int .i64 3, .bool true, .bool false, .bool true, .bool true, .bool false, .bool false, .bool true, .int .i64 2, .bool true, .bool true, .bool true, .bool false, .bool false, .bool false, .bool false, .int .i64 1, .bool false]
/-- The table's store, as one operation (cell by cell it is too much for one proof). -/
def stoTab (a : Addr) : Sem Unit := storeCells a tabL 0
theorem stoTab_eq (a : Addr) : storeCells a [.bool false, .bool true, .bool false, .bool false, .bool false, .bool false, .int .i64 0, .bool false, .bool true, .bool false, .bool true, .bool true, .bool true, .bool true, .int .i64 1, .bool false, .bool false, .bool true, .bool false, .bool true, .bool true, .bool true, .int .i64 2, .bool false, .bool false, .bool true, .bool true, .bool false, .bool true, .bool true, .int .i64 3, .bool true, .bool false, .bool true, .bool true, .bool false, .bool false, .bool true, .int .i64 2, .bool true, .bool true, .bool true, .bool false, .bool false, .bool false, .bool false, .int .i64 1, .bool false] 0 = stoTab a := rfl
theorem stoTab_run (W : World) (c : Obj) : (stoTab ⟨W.heap.size + 1, 0, none⟩).run Try.prog ((W.alloc c).alloc (.cells #[.bool false, .bool false, .bool false, .bool false, .bool false, .bool false, .int .i64 0, .bool false, .bool false, .bool false, .bool false, .bool false, .bool false, .bool false, .int .i64 0, .bool false, .bool false, .bool false, .bool false, .bool false, .bool false, .bool false, .int .i64 0, .bool false, .bool false, .bool false, .bool false, .bool false, .bool false, .bool false, .int .i64 0, .bool false, .bool false, .bool false, .bool false, .bool false, .bool false, .bool false, .int .i64 0, .bool false, .bool false, .bool false, .bool false, .bool false, .bool false, .bool false, .int .i64 0, .bool false] 69)) = .ok () ((W.alloc c).alloc (.cells tabL.toArray 69)) := by
  have h := run_storeCells_new (P := Try.prog) (W.alloc c) 69 #[.bool false, .bool false, .bool false, .bool false, .bool false, .bool false, .int .i64 0, .bool false, .bool false, .bool false, .bool false, .bool false, .bool false, .bool false, .int .i64 0, .bool false, .bool false, .bool false, .bool false, .bool false, .bool false, .bool false, .int .i64 0, .bool false, .bool false, .bool false, .bool false, .bool false, .bool false, .bool false, .int .i64 0, .bool false, .bool false, .bool false, .bool false, .bool false, .bool false, .bool false, .int .i64 0, .bool false, .bool false, .bool false, .bool false, .bool false, .bool false, .bool false, .int .i64 0, .bool false] tabL.toArray (by kernel_rfl) (by kernel_rfl) (by kernel_rfl)
  rwa [World.size_alloc] at h
theorem tab48_cell (W : World) (c : Obj) (k : Nat) (v : Value) (h : tabL.toArray[k]? = some v) : ((W.alloc c).alloc (.cells tabL.toArray 69)).cell? ⟨W.heap.size + 1, k, none⟩ = some v := by
  have e := cell_of_row ((W.alloc c).alloc (.cells tabL.toArray 69)) (W.alloc c).heap.size k tabL.toArray 69 (0, 0) (heap_alloc_last _ _)
  rw [World.size_alloc] at e
  rw [e]; exact h
theorem row_ways (a b c d e f n h : Value) (w : World) : (Instr.field 62 (.agg #[a, b, c, d, e, f, n, h]) 0).run Try.prog w = .ok (.agg #[a, b, c, d, e, f]) w := by kernel_rfl
theorem row_needs (a b c d e f h : Value) (n : Int) (w : World) : (Instr.field 62 (.agg #[a, b, c, d, e, f, .int .i64 n, h]) 1).run Try.prog w = .ok (.int .i64 n) w := by kernel_rfl
theorem row_home (a b c d e f n : Value) (h : Bool) (w : World) : (Instr.field 62 (.agg #[a, b, c, d, e, f, n, .bool h]) 2).run Try.prog w = .ok (.bool h) w := by kernel_rfl
theorem way_at0 (a b c d e f : Bool) (w : World) : (Instr.index 60 (.agg #[.bool a, .bool b, .bool c, .bool d, .bool e, .bool f]) (.int .i64 0)).run Try.prog w = .ok (.bool a) w := by kernel_rfl
theorem way_at1 (a b c d e f : Bool) (w : World) : (Instr.index 60 (.agg #[.bool a, .bool b, .bool c, .bool d, .bool e, .bool f]) (.int .i64 1)).run Try.prog w = .ok (.bool b) w := by kernel_rfl
theorem way_at2 (a b c d e f : Bool) (w : World) : (Instr.index 60 (.agg #[.bool a, .bool b, .bool c, .bool d, .bool e, .bool f]) (.int .i64 2)).run Try.prog w = .ok (.bool c) w := by kernel_rfl
theorem way_at3 (a b c d e f : Bool) (w : World) : (Instr.index 60 (.agg #[.bool a, .bool b, .bool c, .bool d, .bool e, .bool f]) (.int .i64 3)).run Try.prog w = .ok (.bool d) w := by kernel_rfl
theorem way_at4 (a b c d e f : Bool) (w : World) : (Instr.index 60 (.agg #[.bool a, .bool b, .bool c, .bool d, .bool e, .bool f]) (.int .i64 4)).run Try.prog w = .ok (.bool e) w := by kernel_rfl
theorem way_at5 (a b c d e f : Bool) (w : World) : (Instr.index 60 (.agg #[.bool a, .bool b, .bool c, .bool d, .bool e, .bool f]) (.int .i64 5)).run Try.prog w = .ok (.bool f) w := by kernel_rfl
attribute [local go_sem high] stoTab_eq
attribute [local go_sem] stoTab_run row_ways row_needs row_home

set_option maxRecDepth 100000 in
set_option maxHeartbeats 8000000 in
theorem own15row0 (W : World) : Gives Try.prog 43 #[.int .i64 0] W (.agg #[.bool false, .bool true, .bool false, .bool false, .bool false, .bool false, .int .i64 0, .bool false]) := by
  have TI := Lib.hid (fun (V : World) => (show Calls Try.prog 40 #[.int .i64 0] V fun e W' => e = .returned (.bool true) ∧ W' = V from own15is 0 V))
  go_enter Try.func43, Try.ntmps43
  go_wp2_with fail; refine callQ (TI.out _) ?_
  have c0 := fun (c : Obj) => tab48_cell W c 0 (.bool false) rfl
  have c1 := fun (c : Obj) => tab48_cell W c 1 (.bool true) rfl
  have c2 := fun (c : Obj) => tab48_cell W c 2 (.bool false) rfl
  have c3 := fun (c : Obj) => tab48_cell W c 3 (.bool false) rfl
  have c4 := fun (c : Obj) => tab48_cell W c 4 (.bool false) rfl
  have c5 := fun (c : Obj) => tab48_cell W c 5 (.bool false) rfl
  have c6 := fun (c : Obj) => tab48_cell W c 6 (.int .i64 0) rfl
  have c7 := fun (c : Obj) => tab48_cell W c 7 (.bool false) rfl
  go_wp2
  have st := Bs.in2 W 62 [.bool false, .bool true, .bool false, .bool false, .bool false, .bool false, .int .i64 0, .bool false] 69 tabL
  have fc := (st.box 1 rfl).f8
  exact bodyPost_ret (v := .agg #[.bool false, .bool true, .bool false, .bool false, .bool false, .bool false, .int .i64 0, .bool false]) (by simp [results, Try.results43, go_sem, fc]) rfl ⟨rfl, st.lo⟩

set_option maxRecDepth 100000 in
set_option maxHeartbeats 8000000 in
theorem own15row1 (W : World) : Gives Try.prog 43 #[.int .i64 1] W (.agg #[.bool true, .bool false, .bool true, .bool true, .bool true, .bool true, .int .i64 1, .bool false]) := by
  have TI := Lib.hid (fun (V : World) => (show Calls Try.prog 40 #[.int .i64 1] V fun e W' => e = .returned (.bool true) ∧ W' = V from own15is 1 V))
  go_enter Try.func43, Try.ntmps43
  go_wp2_with fail; refine callQ (TI.out _) ?_
  have c0 := fun (c : Obj) => tab48_cell W c 8 (.bool true) rfl
  have c1 := fun (c : Obj) => tab48_cell W c 9 (.bool false) rfl
  have c2 := fun (c : Obj) => tab48_cell W c 10 (.bool true) rfl
  have c3 := fun (c : Obj) => tab48_cell W c 11 (.bool true) rfl
  have c4 := fun (c : Obj) => tab48_cell W c 12 (.bool true) rfl
  have c5 := fun (c : Obj) => tab48_cell W c 13 (.bool true) rfl
  have c6 := fun (c : Obj) => tab48_cell W c 14 (.int .i64 1) rfl
  have c7 := fun (c : Obj) => tab48_cell W c 15 (.bool false) rfl
  go_wp2
  have st := Bs.in2 W 62 [.bool true, .bool false, .bool true, .bool true, .bool true, .bool true, .int .i64 1, .bool false] 69 tabL
  have fc := (st.box 1 rfl).f8
  exact bodyPost_ret (v := .agg #[.bool true, .bool false, .bool true, .bool true, .bool true, .bool true, .int .i64 1, .bool false]) (by simp [results, Try.results43, go_sem, fc]) rfl ⟨rfl, st.lo⟩

set_option maxRecDepth 100000 in
set_option maxHeartbeats 8000000 in
theorem own15row2 (W : World) : Gives Try.prog 43 #[.int .i64 2] W (.agg #[.bool false, .bool true, .bool false, .bool true, .bool true, .bool true, .int .i64 2, .bool false]) := by
  have TI := Lib.hid (fun (V : World) => (show Calls Try.prog 40 #[.int .i64 2] V fun e W' => e = .returned (.bool true) ∧ W' = V from own15is 2 V))
  go_enter Try.func43, Try.ntmps43
  go_wp2_with fail; refine callQ (TI.out _) ?_
  have c0 := fun (c : Obj) => tab48_cell W c 16 (.bool false) rfl
  have c1 := fun (c : Obj) => tab48_cell W c 17 (.bool true) rfl
  have c2 := fun (c : Obj) => tab48_cell W c 18 (.bool false) rfl
  have c3 := fun (c : Obj) => tab48_cell W c 19 (.bool true) rfl
  have c4 := fun (c : Obj) => tab48_cell W c 20 (.bool true) rfl
  have c5 := fun (c : Obj) => tab48_cell W c 21 (.bool true) rfl
  have c6 := fun (c : Obj) => tab48_cell W c 22 (.int .i64 2) rfl
  have c7 := fun (c : Obj) => tab48_cell W c 23 (.bool false) rfl
  go_wp2
  have st := Bs.in2 W 62 [.bool false, .bool true, .bool false, .bool true, .bool true, .bool true, .int .i64 2, .bool false] 69 tabL
  have fc := (st.box 1 rfl).f8
  exact bodyPost_ret (v := .agg #[.bool false, .bool true, .bool false, .bool true, .bool true, .bool true, .int .i64 2, .bool false]) (by simp [results, Try.results43, go_sem, fc]) rfl ⟨rfl, st.lo⟩

set_option maxRecDepth 100000 in
set_option maxHeartbeats 8000000 in
theorem own15row3 (W : World) : Gives Try.prog 43 #[.int .i64 3] W (.agg #[.bool false, .bool true, .bool true, .bool false, .bool true, .bool true, .int .i64 3, .bool true]) := by
  have TI := Lib.hid (fun (V : World) => (show Calls Try.prog 40 #[.int .i64 3] V fun e W' => e = .returned (.bool true) ∧ W' = V from own15is 3 V))
  go_enter Try.func43, Try.ntmps43
  go_wp2_with fail; refine callQ (TI.out _) ?_
  have c0 := fun (c : Obj) => tab48_cell W c 24 (.bool false) rfl
  have c1 := fun (c : Obj) => tab48_cell W c 25 (.bool true) rfl
  have c2 := fun (c : Obj) => tab48_cell W c 26 (.bool true) rfl
  have c3 := fun (c : Obj) => tab48_cell W c 27 (.bool false) rfl
  have c4 := fun (c : Obj) => tab48_cell W c 28 (.bool true) rfl
  have c5 := fun (c : Obj) => tab48_cell W c 29 (.bool true) rfl
  have c6 := fun (c : Obj) => tab48_cell W c 30 (.int .i64 3) rfl
  have c7 := fun (c : Obj) => tab48_cell W c 31 (.bool true) rfl
  go_wp2
  have st := Bs.in2 W 62 [.bool false, .bool true, .bool true, .bool false, .bool true, .bool true, .int .i64 3, .bool true] 69 tabL
  have fc := (st.box 1 rfl).f8
  exact bodyPost_ret (v := .agg #[.bool false, .bool true, .bool true, .bool false, .bool true, .bool true, .int .i64 3, .bool true]) (by simp [results, Try.results43, go_sem, fc]) rfl ⟨rfl, st.lo⟩

set_option maxRecDepth 100000 in
set_option maxHeartbeats 8000000 in
theorem own15row4 (W : World) : Gives Try.prog 43 #[.int .i64 4] W (.agg #[.bool false, .bool true, .bool true, .bool false, .bool false, .bool true, .int .i64 2, .bool true]) := by
  have TI := Lib.hid (fun (V : World) => (show Calls Try.prog 40 #[.int .i64 4] V fun e W' => e = .returned (.bool true) ∧ W' = V from own15is 4 V))
  go_enter Try.func43, Try.ntmps43
  go_wp2_with fail; refine callQ (TI.out _) ?_
  have c0 := fun (c : Obj) => tab48_cell W c 32 (.bool false) rfl
  have c1 := fun (c : Obj) => tab48_cell W c 33 (.bool true) rfl
  have c2 := fun (c : Obj) => tab48_cell W c 34 (.bool true) rfl
  have c3 := fun (c : Obj) => tab48_cell W c 35 (.bool false) rfl
  have c4 := fun (c : Obj) => tab48_cell W c 36 (.bool false) rfl
  have c5 := fun (c : Obj) => tab48_cell W c 37 (.bool true) rfl
  have c6 := fun (c : Obj) => tab48_cell W c 38 (.int .i64 2) rfl
  have c7 := fun (c : Obj) => tab48_cell W c 39 (.bool true) rfl
  go_wp2
  have st := Bs.in2 W 62 [.bool false, .bool true, .bool true, .bool false, .bool false, .bool true, .int .i64 2, .bool true] 69 tabL
  have fc := (st.box 1 rfl).f8
  exact bodyPost_ret (v := .agg #[.bool false, .bool true, .bool true, .bool false, .bool false, .bool true, .int .i64 2, .bool true]) (by simp [results, Try.results43, go_sem, fc]) rfl ⟨rfl, st.lo⟩

set_option maxRecDepth 100000 in
set_option maxHeartbeats 8000000 in
theorem own15row5 (W : World) : Gives Try.prog 43 #[.int .i64 5] W (.agg #[.bool true, .bool true, .bool false, .bool false, .bool false, .bool false, .int .i64 1, .bool false]) := by
  have TI := Lib.hid (fun (V : World) => (show Calls Try.prog 40 #[.int .i64 5] V fun e W' => e = .returned (.bool true) ∧ W' = V from own15is 5 V))
  go_enter Try.func43, Try.ntmps43
  go_wp2_with fail; refine callQ (TI.out _) ?_
  have c0 := fun (c : Obj) => tab48_cell W c 40 (.bool true) rfl
  have c1 := fun (c : Obj) => tab48_cell W c 41 (.bool true) rfl
  have c2 := fun (c : Obj) => tab48_cell W c 42 (.bool false) rfl
  have c3 := fun (c : Obj) => tab48_cell W c 43 (.bool false) rfl
  have c4 := fun (c : Obj) => tab48_cell W c 44 (.bool false) rfl
  have c5 := fun (c : Obj) => tab48_cell W c 45 (.bool false) rfl
  have c6 := fun (c : Obj) => tab48_cell W c 46 (.int .i64 1) rfl
  have c7 := fun (c : Obj) => tab48_cell W c 47 (.bool false) rfl
  go_wp2
  have st := Bs.in2 W 62 [.bool true, .bool true, .bool false, .bool false, .bool false, .bool false, .int .i64 1, .bool false] 69 tabL
  have fc := (st.box 1 rfl).f8
  exact bodyPost_ret (v := .agg #[.bool true, .bool true, .bool false, .bool false, .bool false, .bool false, .int .i64 1, .bool false]) (by simp [results, Try.results43, go_sem, fc]) rfl ⟨rfl, st.lo⟩

set_option maxRecDepth 100000 in
set_option maxHeartbeats 8000000 in
theorem own15rowZ (m : Int) (W : World) (hm : modeB m = false) : Gives Try.prog 43 #[.int .i64 m] W (.agg #[.bool false, .bool false, .bool false, .bool false, .bool false, .bool false, .int .i64 0, .bool false]) := by
  have TI := fun (V : World) => own15is m V
  simp only [hm] at TI
  replace TI := Lib.hid TI
  clear hm
  go_enter Try.func43, Try.ntmps43
  go_wp2_with fail; refine callQ (TI.out _) ?_
  go_wp2
  have st := Bs.in1 W 62 [.bool false, .bool false, .bool false, .bool false, .bool false, .bool false, .int .i64 0, .bool false]
  have fc := (st.box 0 rfl).f8
  exact bodyPost_ret (v := .agg #[.bool false, .bool false, .bool false, .bool false, .bool false, .bool false, .int .i64 0, .bool false]) (by simp [results, Try.results43, go_sem, fc]) rfl ⟨rfl, st.lo⟩

set_option maxRecDepth 100000 in
set_option maxHeartbeats 8000000 in
theorem own15Needs (m : Int) (W : World) (hm : -9223372036854775808 ≤ m ∧ m ≤ 9223372036854775807) : Gives Try.prog 38 #[.int .i64 m] W (.int .i64 (needsN m)) := by
  cases h : modeB m with
  | true =>
    rcases mode_cases h with rfl | rfl | rfl | rfl | rfl | rfl
    · have TR := Lib.hid (fun (V : World) => own15row0 V)
      rw [show needsN 0 = 0 from rfl]
      clear h hm
      go_enter Try.func38, Try.ntmps38
      go_wp2_with fail; refine callB (Bs.nil W) (TR.out _) ?_; intro V1 V1s
      go_wp2; go_ret; exact ⟨rfl, V1s.lo⟩
    · have TR := Lib.hid (fun (V : World) => own15row1 V)
      rw [show needsN 1 = 1 from rfl]
      clear h hm
      go_enter Try.func38, Try.ntmps38
      go_wp2_with fail; refine callB (Bs.nil W) (TR.out _) ?_; intro V1 V1s
      go_wp2; go_ret; exact ⟨rfl, V1s.lo⟩
    · have TR := Lib.hid (fun (V : World) => own15row2 V)
      rw [show needsN 2 = 2 from rfl]
      clear h hm
      go_enter Try.func38, Try.ntmps38
      go_wp2_with fail; refine callB (Bs.nil W) (TR.out _) ?_; intro V1 V1s
      go_wp2; go_ret; exact ⟨rfl, V1s.lo⟩
    · have TR := Lib.hid (fun (V : World) => own15row3 V)
      rw [show needsN 3 = 3 from rfl]
      clear h hm
      go_enter Try.func38, Try.ntmps38
      go_wp2_with fail; refine callB (Bs.nil W) (TR.out _) ?_; intro V1 V1s
      go_wp2; go_ret; exact ⟨rfl, V1s.lo⟩
    · have TR := Lib.hid (fun (V : World) => own15row4 V)
      rw [show needsN 4 = 2 from rfl]
      clear h hm
      go_enter Try.func38, Try.ntmps38
      go_wp2_with fail; refine callB (Bs.nil W) (TR.out _) ?_; intro V1 V1s
      go_wp2; go_ret; exact ⟨rfl, V1s.lo⟩
    · have TR := Lib.hid (fun (V : World) => own15row5 V)
      rw [show needsN 5 = 1 from rfl]
      clear h hm
      go_enter Try.func38, Try.ntmps38
      go_wp2_with fail; refine callB (Bs.nil W) (TR.out _) ?_; intro V1 V1s
      go_wp2; go_ret; exact ⟨rfl, V1s.lo⟩
  | false =>
    have TR := Lib.hid (fun (V : World) => own15rowZ m V h)
    rw [show needsN m = 0 from by unfold needsN; have := mode_not h; rw [if_neg (by omega), if_neg (by omega), if_neg (by omega)]]
    clear h hm
    go_enter Try.func38, Try.ntmps38
    go_wp2_with fail; refine callB (Bs.nil W) (TR.out _) ?_; intro V1 V1s
    go_wp2; go_ret; exact ⟨rfl, V1s.lo⟩

set_option maxRecDepth 100000 in
set_option maxHeartbeats 8000000 in
theorem own15Home (m : Int) (W : World) (hm : -9223372036854775808 ≤ m ∧ m ≤ 9223372036854775807) : Gives Try.prog 41 #[.int .i64 m] W (.bool (homeB m)) := by
  cases h : modeB m with
  | true =>
    rcases mode_cases h with rfl | rfl | rfl | rfl | rfl | rfl
    · have TR := Lib.hid (fun (V : World) => own15row0 V)
      rw [show homeB 0 = false from rfl]
      clear h hm
      go_enter Try.func41, Try.ntmps41
      go_wp2_with fail; refine callB (Bs.nil W) (TR.out _) ?_; intro V1 V1s
      go_wp2; go_ret; exact ⟨rfl, V1s.lo⟩
    · have TR := Lib.hid (fun (V : World) => own15row1 V)
      rw [show homeB 1 = false from rfl]
      clear h hm
      go_enter Try.func41, Try.ntmps41
      go_wp2_with fail; refine callB (Bs.nil W) (TR.out _) ?_; intro V1 V1s
      go_wp2; go_ret; exact ⟨rfl, V1s.lo⟩
    · have TR := Lib.hid (fun (V : World) => own15row2 V)
      rw [show homeB 2 = false from rfl]
      clear h hm
      go_enter Try.func41, Try.ntmps41
      go_wp2_with fail; refine callB (Bs.nil W) (TR.out _) ?_; intro V1 V1s
      go_wp2; go_ret; exact ⟨rfl, V1s.lo⟩
    · have TR := Lib.hid (fun (V : World) => own15row3 V)
      rw [show homeB 3 = true from rfl]
      clear h hm
      go_enter Try.func41, Try.ntmps41
      go_wp2_with fail; refine callB (Bs.nil W) (TR.out _) ?_; intro V1 V1s
      go_wp2; go_ret; exact ⟨rfl, V1s.lo⟩
    · have TR := Lib.hid (fun (V : World) => own15row4 V)
      rw [show homeB 4 = true from rfl]
      clear h hm
      go_enter Try.func41, Try.ntmps41
      go_wp2_with fail; refine callB (Bs.nil W) (TR.out _) ?_; intro V1 V1s
      go_wp2; go_ret; exact ⟨rfl, V1s.lo⟩
    · have TR := Lib.hid (fun (V : World) => own15row5 V)
      rw [show homeB 5 = false from rfl]
      clear h hm
      go_enter Try.func41, Try.ntmps41
      go_wp2_with fail; refine callB (Bs.nil W) (TR.out _) ?_; intro V1 V1s
      go_wp2; go_ret; exact ⟨rfl, V1s.lo⟩
  | false =>
    have TR := Lib.hid (fun (V : World) => own15rowZ m V h)
    rw [show homeB m = false from decide_eq_false (fun k => by have := mode_not h; omega)]
    clear h hm
    go_enter Try.func41, Try.ntmps41
    go_wp2_with fail; refine callB (Bs.nil W) (TR.out _) ?_; intro V1 V1s
    go_wp2; go_ret; exact ⟨rfl, V1s.lo⟩

set_option maxRecDepth 100000 in
set_option maxHeartbeats 8000000 in
theorem own15Flying (m : Int) (W : World) (hm : -9223372036854775808 ≤ m ∧ m ≤ 9223372036854775807) : Gives Try.prog 27 #[.int .i64 m] W (.bool (flyB m)) := by
  have TM := fun (V : World) => own15is m V
  unfold flyB
  by_cases h0 : m = 0
  · subst h0
    rw [show modeB 0 = true from rfl] at *
    replace TM := Lib.hid TM
    clear hm
    go_enter Try.func27, Try.ntmps27
    go_wp2_with fail; refine callQ (TM.out _) ?_
    go_wp2; go_ret; exact ⟨rfl, Below.refl _ _⟩
  · have n0 : (m != 0) = true := bne_iff_ne.2 h0
    rw [decide_eq_true (show m ≠ 0 from h0)]
    cases hk : modeB m
    · rw [hk] at TM
      replace TM := Lib.hid TM
      clear hk hm
      go_enter Try.func27, Try.ntmps27
      go_wp2_with fail; refine callQ (TM.out _) ?_
      go_wp2; go_ret; exact ⟨rfl, Below.refl _ _⟩
    · rw [hk] at TM
      replace TM := Lib.hid TM
      clear hk hm
      go_enter Try.func27, Try.ntmps27
      go_wp2_with fail; refine callQ (TM.out _) ?_
      go_wp2; go_ret; exact ⟨rfl, Below.refl _ _⟩

set_option maxRecDepth 100000 in
set_option maxHeartbeats 8000000 in
theorem own15Way (a b : Int) (W : World) (ha : -9223372036854775808 ≤ a ∧ a ≤ 9223372036854775807) (hb : -9223372036854775808 ≤ b ∧ b ≤ 9223372036854775807) : Gives Try.prog 36 #[.int .i64 a, .int .i64 b] W (.bool (wayB a b)) := by
  clear ha hb
  have TA := fun (V : World) => own15is a V
  have TB := fun (V : World) => own15is b V
  cases ha : modeB a with
  | false =>
    rw [way_none (Or.inl ha)]
    simp only [ha] at TA
    replace TA := Lib.hid TA
    clear ha TB
    go_enter Try.func36, Try.ntmps36
    go_wp2_with fail; refine callQ (TA.out _) ?_
    go_wp2; go_ret; exact ⟨rfl, Below.refl _ _⟩
  | true =>
    cases hb : modeB b with
    | false =>
      rw [way_none (Or.inr hb)]
      simp only [ha] at TA
      simp only [hb] at TB
      replace TA := Lib.hid TA
      replace TB := Lib.hid TB
      clear ha hb
      go_enter Try.func36, Try.ntmps36
      go_wp2_with fail; refine callQ (TA.out _) ?_
      go_wp2_with fail; refine callQ (TB.out _) ?_
      go_wp2; go_ret; exact ⟨rfl, Below.refl _ _⟩
    | true =>
      simp only [ha] at TA
      simp only [hb] at TB
      replace TA := Lib.hid TA
      replace TB := Lib.hid TB
      by_cases e : a = b
      · subst e
        rw [show wayB a a = true from by unfold wayB; rw [if_pos ⟨ha, ha⟩, if_pos rfl]]
        clear ha hb
        go_enter Try.func36, Try.ntmps36
        go_wp2_with fail; refine callQ (TA.out _) ?_
        go_wp2_with fail; refine callQ (TB.out _) ?_
        go_wp2; go_ret; exact ⟨rfl, Below.refl _ _⟩
      · have n0 : (a == b) = false := beq_eq_false_iff_ne.2 e
        rcases mode_cases ha with rfl | rfl | rfl | rfl | rfl | rfl
        · have TR := Lib.hid (fun (V : World) => own15row0 V)
          have TX : ∀ V : World, (Instr.index 60 (.agg #[.bool false, .bool true, .bool false, .bool false, .bool false, .bool false]) (.int .i64 b)).run Try.prog V = .ok (.bool (wayB 0 b)) V := fun V => by
            rcases mode_cases hb with rfl | rfl | rfl | rfl | rfl | rfl
            · exact absurd rfl e
            · exact way_at1 _ _ _ _ _ _ V
            · exact way_at2 _ _ _ _ _ _ V
            · exact way_at3 _ _ _ _ _ _ V
            · exact way_at4 _ _ _ _ _ _ V
            · exact way_at5 _ _ _ _ _ _ V
          clear ha hb e
          generalize wayB 0 b = wr at *
          go_enter Try.func36, Try.ntmps36
          go_wp2_with fail; refine callQ (TA.out _) ?_
          go_wp2_with fail; refine callQ (TB.out _) ?_
          go_wp2_with fail; refine callB (Bs.nil W) (TR.out _) ?_; intro V1 V1s
          go_wp2; go_ret; exact ⟨rfl, V1s.lo⟩
        · have TR := Lib.hid (fun (V : World) => own15row1 V)
          have TX : ∀ V : World, (Instr.index 60 (.agg #[.bool true, .bool false, .bool true, .bool true, .bool true, .bool true]) (.int .i64 b)).run Try.prog V = .ok (.bool (wayB 1 b)) V := fun V => by
            rcases mode_cases hb with rfl | rfl | rfl | rfl | rfl | rfl
            · exact way_at0 _ _ _ _ _ _ V
            · exact absurd rfl e
            · exact way_at2 _ _ _ _ _ _ V
            · exact way_at3 _ _ _ _ _ _ V
            · exact way_at4 _ _ _ _ _ _ V
            · exact way_at5 _ _ _ _ _ _ V
          clear ha hb e
          generalize wayB 1 b = wr at *
          go_enter Try.func36, Try.ntmps36
          go_wp2_with fail; refine callQ (TA.out _) ?_
          go_wp2_with fail; refine callQ (TB.out _) ?_
          go_wp2_with fail; refine callB (Bs.nil W) (TR.out _) ?_; intro V1 V1s
          go_wp2; go_ret; exact ⟨rfl, V1s.lo⟩
        · have TR := Lib.hid (fun (V : World) => own15row2 V)
          have TX : ∀ V : World, (Instr.index 60 (.agg #[.bool false, .bool true, .bool false, .bool true, .bool true, .bool true]) (.int .i64 b)).run Try.prog V = .ok (.bool (wayB 2 b)) V := fun V => by
            rcases mode_cases hb with rfl | rfl | rfl | rfl | rfl | rfl
            · exact way_at0 _ _ _ _ _ _ V
            · exact way_at1 _ _ _ _ _ _ V
            · exact absurd rfl e
            · exact way_at3 _ _ _ _ _ _ V
            · exact way_at4 _ _ _ _ _ _ V
            · exact way_at5 _ _ _ _ _ _ V
          clear ha hb e
          generalize wayB 2 b = wr at *
          go_enter Try.func36, Try.ntmps36
          go_wp2_with fail; refine callQ (TA.out _) ?_
          go_wp2_with fail; refine callQ (TB.out _) ?_
          go_wp2_with fail; refine callB (Bs.nil W) (TR.out _) ?_; intro V1 V1s
          go_wp2; go_ret; exact ⟨rfl, V1s.lo⟩
        · have TR := Lib.hid (fun (V : World) => own15row3 V)
          have TX : ∀ V : World, (Instr.index 60 (.agg #[.bool false, .bool true, .bool true, .bool false, .bool true, .bool true]) (.int .i64 b)).run Try.prog V = .ok (.bool (wayB 3 b)) V := fun V => by
            rcases mode_cases hb with rfl | rfl | rfl | rfl | rfl | rfl
            · exact way_at0 _ _ _ _ _ _ V
            · exact way_at1 _ _ _ _ _ _ V
            · exact way_at2 _ _ _ _ _ _ V
            · exact absurd rfl e
            · exact way_at4 _ _ _ _ _ _ V
            · exact way_at5 _ _ _ _ _ _ V
          clear ha hb e
          generalize wayB 3 b = wr at *
          go_enter Try.func36, Try.ntmps36
          go_wp2_with fail; refine callQ (TA.out _) ?_
          go_wp2_with fail; refine callQ (TB.out _) ?_
          go_wp2_with fail; refine callB (Bs.nil W) (TR.out _) ?_; intro V1 V1s
          go_wp2; go_ret; exact ⟨rfl, V1s.lo⟩
        · have TR := Lib.hid (fun (V : World) => own15row4 V)
          have TX : ∀ V : World, (Instr.index 60 (.agg #[.bool false, .bool true, .bool true, .bool false, .bool false, .bool true]) (.int .i64 b)).run Try.prog V = .ok (.bool (wayB 4 b)) V := fun V => by
            rcases mode_cases hb with rfl | rfl | rfl | rfl | rfl | rfl
            · exact way_at0 _ _ _ _ _ _ V
            · exact way_at1 _ _ _ _ _ _ V
            · exact way_at2 _ _ _ _ _ _ V
            · exact way_at3 _ _ _ _ _ _ V
            · exact absurd rfl e
            · exact way_at5 _ _ _ _ _ _ V
          clear ha hb e
          generalize wayB 4 b = wr at *
          go_enter Try.func36, Try.ntmps36
          go_wp2_with fail; refine callQ (TA.out _) ?_
          go_wp2_with fail; refine callQ (TB.out _) ?_
          go_wp2_with fail; refine callB (Bs.nil W) (TR.out _) ?_; intro V1 V1s
          go_wp2; go_ret; exact ⟨rfl, V1s.lo⟩
        · have TR := Lib.hid (fun (V : World) => own15row5 V)
          have TX : ∀ V : World, (Instr.index 60 (.agg #[.bool true, .bool true, .bool false, .bool false, .bool false, .bool false]) (.int .i64 b)).run Try.prog V = .ok (.bool (wayB 5 b)) V := fun V => by
            rcases mode_cases hb with rfl | rfl | rfl | rfl | rfl | rfl
            · exact way_at0 _ _ _ _ _ _ V
            · exact way_at1 _ _ _ _ _ _ V
            · exact way_at2 _ _ _ _ _ _ V
            · exact way_at3 _ _ _ _ _ _ V
            · exact way_at4 _ _ _ _ _ _ V
            · exact absurd rfl e
          clear ha hb e
          generalize wayB 5 b = wr at *
          go_enter Try.func36, Try.ntmps36
          go_wp2_with fail; refine callQ (TA.out _) ?_
          go_wp2_with fail; refine callQ (TB.out _) ?_
          go_wp2_with fail; refine callB (Bs.nil W) (TR.out _) ?_; intro V1 V1s
          go_wp2; go_ret; exact ⟨rfl, V1s.lo⟩

theorem ownsRow_below {w w' : World} {base : Nat} {e : TypeId} {size : Nat} {v : Value} {n : Nat} {xs : List Value} (h : w.ownsRow base e size v n xs) (k : Below w.heap.size w w') : w'.ownsRow base e size v n xs :=
  h.kept (row := none) ⟨k.os, k.tape, k.output, k.size, fun j hj _ => k.block j hj⟩ (by cases v.ownBlock <;> simp)

end Go.Proofs.Ytdfacpppmfoiiaa

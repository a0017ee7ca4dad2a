/- The program's own functions of layer 10: contracts only. -/
import Derived.Test.YthmpjoiifglbjaaGreatRows
import Derived.Test.YthmpjoiifglbjaaGreatPlanRes
import Derived.Test.YthmpjoiifglbjaaGreatBs
import Derived.Test.YthmpjoiifglbjaaGreatInts
import Derived.Test.YthmpjoiifglbjaaGreatBankOwn
import Derived.Test.YthmpjoiifglbjaaGreatScanOwn
import Derived.Test.YthmpjoiifglbjaaGreatLayoutOwn
import Derived.WalkKit
import Derived.ProofKit
import Derived.Lib.Hide
import Derived.OwnWalk
import Derived.Deep.RegionHeld3
import Derived.WalkLawsBesides
import Derived.WalkSpells
import Derived.IntWalk
namespace Go.Proofs.YthmpjoiifglbjaaGreat
open Go.RowKit
set_option linter.unusedVariables false
set_option linter.unusedSimpArgs false

/-- The generation that a bank claims; 0 where it is not sound. -/
def cgI (s : ByteArray) : Int := if soundB s = true then (genN s : Int) else 0

def grI (a : Bool) (x : Int) (y : Int) : Int := if a = true ∧ ¬ y > x then 0 else 1

theorem pick_at0 (a b : ByteArray) (w : World) : (Instr.index 22 (.agg #[.string a, .string b]) (.int .i64 0)).run Tryz.prog w = .ok (.string a) w := by kernel_rfl
theorem pick_at1 (a b : ByteArray) (w : World) : (Instr.index 22 (.agg #[.string a, .string b]) (.int .i64 1)).run Tryz.prog w = .ok (.string b) w := by kernel_rfl
attribute [local go_sem] pick_at0 pick_at1

set_option maxRecDepth 100000 in
set_option maxHeartbeats 4000000 in
theorem own10Greater (a b : Bool) (x y : Int) (W : World) :
    Gives Tryz.prog 85 #[.agg #[.bool a, .int .u64 x, .bool b, .int .u64 y]] W (.int .i64 (grI a x y)) := by
  cases a
  · rw [show grI false x y = 1 from if_neg (fun h => by cases h.1)]
    have st := Bs.in1 W 141 [.bool false, .int .u64 x, .bool b, .int .u64 y]
    go_enter Tryz.func85, Tryz.ntmps85
    have fc := (st.box 0 rfl).f4
    go_wp2; go_ret; exact ⟨rfl, st.lo⟩
  · by_cases hxy : y > x
    · rw [show grI true x y = 1 from if_neg (fun h => h.2 hxy)]
      have st := Bs.in1 W 141 [.bool true, .int .u64 x, .bool b, .int .u64 y]
      go_enter Tryz.func85, Tryz.ntmps85
      have fc := (st.box 0 rfl).f4
      go_wp2; go_ret; exact ⟨rfl, st.lo⟩
    · rw [show grI true x y = 0 from if_pos ⟨rfl, hxy⟩]
      have st := Bs.in1 W 141 [.bool true, .int .u64 x, .bool b, .int .u64 y]
      go_enter Tryz.func85, Tryz.ntmps85
      have fc := (st.box 0 rfl).f4
      go_wp2; go_ret; exact ⟨rfl, st.lo⟩

set_option maxRecDepth 100000 in
set_option maxHeartbeats 4000000 in
theorem own10Claims (f : Fl) (W : World) (hf : f.ok) :
    Gives Tryz.prog 84 #[.agg #[.string f.b0, .string f.b1, .int .i64 f.e0, .int .i64 f.e1, .int .i64 f.lim]] W (.agg #[.bool (soundB f.b0), .int .u64 (cgI f.b0), .bool (soundB f.b1), .int .u64 (cgI f.b1)]) := by
  have TS0 := Lib.hid (fun (V : World) => own09Sound f.b0 V hf.s0)
  have TS1 := Lib.hid (fun (V : World) => own09Sound f.b1 V hf.s1)
  have TG0 := Lib.hid (fun (V : World) => own08Generation f.b0 V hf.s0)
  have TG1 := Lib.hid (fun (V : World) => own08Generation f.b1 V hf.s1)
  have HC0 := Lib.hid (show cgI f.b0 = if soundB f.b0 = true then (genN f.b0 : Int) else 0 from rfl)
  have HC1 := Lib.hid (show cgI f.b1 = if soundB f.b1 = true then (genN f.b1 : Int) else 0 from rfl)
  generalize cgI f.b0 = c0 at *
  generalize cgI f.b1 = c1 at *
  generalize soundB f.b0 = a0 at *
  generalize soundB f.b1 = a1 at *
  generalize genN f.b0 = g0 at *
  generalize genN f.b1 = g1 at *
  generalize genE f.b0 = e0 at *
  generalize genE f.b1 = e1 at *
  clear hf
  have st := Bs.in3 W 25 [.string f.b0, .string f.b1, .int .i64 f.e0, .int .i64 f.e1, .int .i64 f.lim] 141 [.bool false, .int .u64 0, .bool false, .int .u64 0] 141 [.bool false, .int .u64 0, .bool false, .int .u64 0]
  go_enter Tryz.func84, Tryz.ntmps84
  have fc := And.intro (st.box 2 rfl).f5 (And.intro (st.box 1 rfl).f4 (st.box 0 rfl).f4)
  go_wp2
  clear fc
  go_loopw [10] (fun i w => ∃ j : Nat, j ≤ 2 ∧ i = .int .i64 j ∧ (j = 0 → Bs W w [(141, W.heap.size + 1 + 1, [.bool false, .int .u64 0, .bool false, .int .u64 0]), (141, W.heap.size + 1, [.bool false, .int .u64 0, .bool false, .int .u64 0]), (25, W.heap.size, [.string f.b0, .string f.b1, .int .i64 f.e0, .int .i64 f.e1, .int .i64 f.lim])]) ∧ (j = 1 → Bs W w [(141, W.heap.size + 1 + 1, [.bool a0, .int .u64 c0, .bool false, .int .u64 0]), (141, W.heap.size + 1, [.bool false, .int .u64 0, .bool false, .int .u64 0]), (25, W.heap.size, [.string f.b0, .string f.b1, .int .i64 f.e0, .int .i64 f.e1, .int .i64 f.lim])]) ∧ (j = 2 → Bs W w [(141, W.heap.size + 1 + 1, [.bool a0, .int .u64 c0, .bool a1, .int .u64 c1]), (141, W.heap.size + 1, [.bool false, .int .u64 0, .bool false, .int .u64 0]), (25, W.heap.size, [.string f.b0, .string f.b1, .int .i64 f.e0, .int .i64 f.e1, .int .i64 f.lim])])) (fun i _ => 2 - (intOf i).toNat)
  case atStart => exact ⟨0, by omega, rfl, fun _ => st, fun h => by omega, fun h => by omega⟩
  case round =>
    clear st
    obtain ⟨j, hj, rfl, x0, x1, x2⟩ := hrel
    rcases (show j = 0 ∨ j = 1 ∨ j = 2 from by omega) with rfl | rfl | rfl
    · have st := x0 rfl
      clear x0 x1 x2
      cases a0
      · have hc := HC0.out; rw [if_neg (by decide)] at hc; subst hc
        go_wp2_with fail; refine callB st (TS0.out _) ?_; clear st; intro V21 st
        have fc := And.intro (st.box 2 rfl).f5 (And.intro (st.box 1 rfl).f4 (st.box 0 rfl).f4)
        go_wp2
        go_roundw
        clear fc
        case rel => exact ⟨1, by omega, rfl, fun h => by omega, fun _ => st, fun h => by omega⟩
        case measure => simp [intOf]
      · have hc := HC0.out; rw [if_pos rfl] at hc; subst hc
        go_wp2_with fail; refine callB st (TS0.out _) ?_; clear st; intro V21 st
        have fc := And.intro (st.box 2 rfl).f5 (And.intro (st.box 1 rfl).f4 (st.box 0 rfl).f4)
        go_wp2_with fail; refine callB st (TG0.out _) ?_; clear st fc; intro V22 st
        have fc := And.intro (st.box 2 rfl).f5 (And.intro (st.box 1 rfl).f4 (st.box 0 rfl).f4)
        go_wp2
        clear fc
        replace st := ((st.set 0 0 (.bool true) rfl).set 0 1 (.int .u64 (g0 : Int)) rfl).name; obtain ⟨V23, hV, st⟩ := st; rw [hV]; clear hV
        have fc := And.intro (st.box 2 rfl).f5 (And.intro (st.box 1 rfl).f4 (st.box 0 rfl).f4)
        go_roundw
        clear fc
        case rel => exact ⟨1, by omega, rfl, fun h => by omega, fun _ => st, fun h => by omega⟩
        case measure => simp [intOf]
    · have st := x1 rfl
      clear x0 x1 x2
      cases a1
      · have hc := HC1.out; rw [if_neg (by decide)] at hc; subst hc
        go_wp2_with fail; refine callB st (TS1.out _) ?_; clear st; intro V21 st
        have fc := And.intro (st.box 2 rfl).f5 (And.intro (st.box 1 rfl).f4 (st.box 0 rfl).f4)
        go_wp2
        go_roundw
        clear fc
        case rel => exact ⟨2, by omega, rfl, fun h => by omega, fun h => by omega, fun _ => st⟩
        case measure => simp [intOf]
      · have hc := HC1.out; rw [if_pos rfl] at hc; subst hc
        go_wp2_with fail; refine callB st (TS1.out _) ?_; clear st; intro V21 st
        have fc := And.intro (st.box 2 rfl).f5 (And.intro (st.box 1 rfl).f4 (st.box 0 rfl).f4)
        go_wp2_with fail; refine callB st (TG1.out _) ?_; clear st fc; intro V22 st
        have fc := And.intro (st.box 2 rfl).f5 (And.intro (st.box 1 rfl).f4 (st.box 0 rfl).f4)
        go_wp2
        clear fc
        replace st := ((st.set 0 2 (.bool true) rfl).set 0 3 (.int .u64 (g1 : Int)) rfl).name; obtain ⟨V23, hV, st⟩ := st; rw [hV]; clear hV
        have fc := And.intro (st.box 2 rfl).f5 (And.intro (st.box 1 rfl).f4 (st.box 0 rfl).f4)
        go_roundw
        clear fc
        case rel => exact ⟨2, by omega, rfl, fun h => by omega, fun h => by omega, fun _ => st⟩
        case measure => simp [intOf]
    · have st := x2 rfl; clear x0 x1 x2
      have fc := And.intro (st.box 2 rfl).f5 (And.intro (st.box 1 rfl).f4 (st.box 0 rfl).f4)
      go_wp2
      clear fc
      replace st := st.put4 1 (.bool a0) (.int .u64 c0) (.bool a1) (.int .u64 c1) rfl; obtain ⟨V41, hV, st⟩ := st; rw [hV]; clear hV
      have fc := And.intro (st.box 2 rfl).f5 (And.intro (st.box 1 rfl).f4 (st.box 0 rfl).f4)
      exact bodyPost_ret (v := .agg #[.bool a0, .int .u64 c0, .bool a1, .int .u64 c1]) (by simp [results, Tryz.results84, go_sem, fc]) rfl ⟨rfl, st.lo⟩

set_option maxRecDepth 100000 in
set_option maxHeartbeats 4000000 in
theorem own10Bank (f : Fl) (W : World) (hf : f.ok) :
    Gives Tryz.prog 55 #[.agg #[.string f.b0, .string f.b1, .int .i64 f.e0, .int .i64 f.e1, .int .i64 f.lim]] W (.int .i64 (bankK f)) := by
  have TC := Lib.hid (fun (V : World) => own10Claims f V hf)
  have HB : bankK f = (if soundB f.b0 = true ∧ soundB f.b1 = true ∧ genN f.b0 < genN f.b1 then 1 else if soundB f.b0 = true then 0 else if soundB f.b1 = true then 1 else -1) := rfl
  have HC0 : cgI f.b0 = if soundB f.b0 = true then (genN f.b0 : Int) else 0 := rfl
  have HC1 : cgI f.b1 = if soundB f.b1 = true then (genN f.b1 : Int) else 0 := rfl
  generalize bankK f = K at *
  generalize cgI f.b0 = c0 at *
  generalize cgI f.b1 = c1 at *
  generalize soundB f.b0 = a at *
  generalize soundB f.b1 = b at *
  generalize genN f.b0 = x at *
  generalize genN f.b1 = y at *
  clear hf
  cases a
  · rw [if_neg (by decide)] at HC0
    subst HC0
    cases b
    · rw [if_neg (by decide)] at HC1
      subst HC1
      have hK : K = -1 := by rw [HB]; simp
      rw [hK]
      clear HB hK
      have st := Bs.in1 W 25 [.string f.b0, .string f.b1, .int .i64 f.e0, .int .i64 f.e1, .int .i64 f.lim]
      go_enter Tryz.func55, Tryz.ntmps55
      have fc := (st.box 0 rfl).f5
      go_wp2_with fail; refine callB st (TC.out _) ?_; clear st fc; intro V1 st
      have fc := (st.box 0 rfl).f5
      replace st := st.alloc 141 [.bool false, .int .u64 0, .bool false, .int .u64 0]
      replace fc := And.intro (st.box 1 rfl).f5 (st.box 0 rfl).f4
      go_wp2; go_ret; exact ⟨rfl, st.lo⟩
    · rw [if_pos rfl] at HC1
      subst HC1
      have hK : K = 1 := by rw [HB]; simp
      rw [hK]
      clear HB hK
      have TGr := Lib.hid (fun (V : World) => (show Gives Tryz.prog 85 #[.agg #[.bool false, .int .u64 0, .bool true, .int .u64 (y : Int)]] V (.int .i64 1) from by have h := own10Greater false true 0 (y : Int) V; rwa [show grI false 0 (y : Int) = 1 from if_neg (fun h => by cases h.1)] at h))
      have st := Bs.in1 W 25 [.string f.b0, .string f.b1, .int .i64 f.e0, .int .i64 f.e1, .int .i64 f.lim]
      go_enter Tryz.func55, Tryz.ntmps55
      have fc := (st.box 0 rfl).f5
      go_wp2_with fail; refine callB st (TC.out _) ?_; clear st fc; intro V1 st
      have fc := (st.box 0 rfl).f5
      replace st := st.alloc 141 [.bool false, .int .u64 0, .bool true, .int .u64 (y : Int)]
      replace fc := And.intro (st.box 1 rfl).f5 (st.box 0 rfl).f4
      go_wp2_with fail; refine callB st (TGr.out _) ?_; clear st fc; intro V2 st
      have fc := And.intro (st.box 1 rfl).f5 (st.box 0 rfl).f4
      go_wp2; go_ret; exact ⟨rfl, st.lo⟩
  · rw [if_pos rfl] at HC0
    subst HC0
    cases b
    · rw [if_neg (by decide)] at HC1
      subst HC1
      have hK : K = 0 := by rw [HB]; simp
      rw [hK]
      clear HB hK
      have TGr := Lib.hid (fun (V : World) => (show Gives Tryz.prog 85 #[.agg #[.bool true, .int .u64 (x : Int), .bool false, .int .u64 0]] V (.int .i64 0) from by have h := own10Greater true false (x : Int) 0 V; rwa [show grI true (x : Int) 0 = 0 from if_pos ⟨rfl, by omega⟩] at h))
      have st := Bs.in1 W 25 [.string f.b0, .string f.b1, .int .i64 f.e0, .int .i64 f.e1, .int .i64 f.lim]
      go_enter Tryz.func55, Tryz.ntmps55
      have fc := (st.box 0 rfl).f5
      go_wp2_with fail; refine callB st (TC.out _) ?_; clear st fc; intro V1 st
      have fc := (st.box 0 rfl).f5
      replace st := st.alloc 141 [.bool true, .int .u64 (x : Int), .bool false, .int .u64 0]
      replace fc := And.intro (st.box 1 rfl).f5 (st.box 0 rfl).f4
      go_wp2_with fail; refine callB st (TGr.out _) ?_; clear st fc; intro V2 st
      have fc := And.intro (st.box 1 rfl).f5 (st.box 0 rfl).f4
      go_wp2; go_ret; exact ⟨rfl, st.lo⟩
    · rw [if_pos rfl] at HC1
      subst HC1
      rcases Nat.lt_trichotomy x y with hxy | hxy | hxy
      · have hK : K = 1 := by rw [HB, if_pos ⟨rfl, rfl, hxy⟩]
        rw [hK]
        have TGr := Lib.hid (fun (V : World) => (show Gives Tryz.prog 85 #[.agg #[.bool true, .int .u64 (x : Int), .bool true, .int .u64 (y : Int)]] V (.int .i64 1) from by have h := own10Greater true true (x : Int) (y : Int) V; rwa [show grI true (x : Int) (y : Int) = 1 from if_neg (fun h => h.2 (by omega))] at h))
        have n1 : ((x : Int) == (y : Int)) = false := beq_eq_false_iff_ne.2 (by omega)
        have n2 : ¬ (x : Int) = (y : Int) := by omega
        clear HB hK hxy
        have st := Bs.in1 W 25 [.string f.b0, .string f.b1, .int .i64 f.e0, .int .i64 f.e1, .int .i64 f.lim]
        go_enter Tryz.func55, Tryz.ntmps55
        have fc := (st.box 0 rfl).f5
        go_wp2_with fail; refine callB st (TC.out _) ?_; clear st fc; intro V1 st
        have fc := (st.box 0 rfl).f5
        replace st := st.alloc 141 [.bool true, .int .u64 (x : Int), .bool true, .int .u64 (y : Int)]
        replace fc := And.intro (st.box 1 rfl).f5 (st.box 0 rfl).f4
        go_wp2_with fail; refine callB st (TGr.out _) ?_; clear st fc; intro V2 st
        have fc := And.intro (st.box 1 rfl).f5 (st.box 0 rfl).f4
        go_wp2; go_ret; exact ⟨rfl, st.lo⟩
      · subst hxy
        have hK : K = 0 := by rw [HB, if_neg (fun h => Nat.lt_irrefl _ h.2.2), if_pos rfl]
        rw [hK]
        clear HB hK
        have st := Bs.in1 W 25 [.string f.b0, .string f.b1, .int .i64 f.e0, .int .i64 f.e1, .int .i64 f.lim]
        go_enter Tryz.func55, Tryz.ntmps55
        have fc := (st.box 0 rfl).f5
        go_wp2_with fail; refine callB st (TC.out _) ?_; clear st fc; intro V1 st
        have fc := (st.box 0 rfl).f5
        replace st := st.alloc 141 [.bool true, .int .u64 (x : Int), .bool true, .int .u64 (x : Int)]
        replace fc := And.intro (st.box 1 rfl).f5 (st.box 0 rfl).f4
        go_wp2; go_ret; exact ⟨rfl, st.lo⟩
      · have hK : K = 0 := by rw [HB, if_neg (fun h => Nat.lt_asymm hxy h.2.2), if_pos rfl]
        rw [hK]
        have TGr := Lib.hid (fun (V : World) => (show Gives Tryz.prog 85 #[.agg #[.bool true, .int .u64 (x : Int), .bool true, .int .u64 (y : Int)]] V (.int .i64 0) from by have h := own10Greater true true (x : Int) (y : Int) V; rwa [show grI true (x : Int) (y : Int) = 0 from if_pos ⟨rfl, by omega⟩] at h))
        have n1 : ((x : Int) == (y : Int)) = false := beq_eq_false_iff_ne.2 (by omega)
        have n2 : ¬ (x : Int) = (y : Int) := by omega
        clear HB hK hxy
        have st := Bs.in1 W 25 [.string f.b0, .string f.b1, .int .i64 f.e0, .int .i64 f.e1, .int .i64 f.lim]
        go_enter Tryz.func55, Tryz.ntmps55
        have fc := (st.box 0 rfl).f5
        go_wp2_with fail; refine callB st (TC.out _) ?_; clear st fc; intro V1 st
        have fc := (st.box 0 rfl).f5
        replace st := st.alloc 141 [.bool true, .int .u64 (x : Int), .bool true, .int .u64 (y : Int)]
        replace fc := And.intro (st.box 1 rfl).f5 (st.box 0 rfl).f4
        go_wp2_with fail; refine callB st (TGr.out _) ?_; clear st fc; intro V2 st
        have fc := And.intro (st.box 1 rfl).f5 (st.box 0 rfl).f4
        go_wp2; go_ret; exact ⟨rfl, st.lo⟩

set_option maxRecDepth 100000 in
set_option maxHeartbeats 4000000 in
theorem own10Read (f : Fl) (W : World) (hf : f.ok) :
    Gives Tryz.prog 35 #[.agg #[.string f.b0, .string f.b1, .int .i64 f.e0, .int .i64 f.e1, .int .i64 f.lim]] W (.tuple #[.agg #[.int .i64 (pickS f).bank, .int .u64 ((pickS f).gen : Int), .int .u64 ((pickS f).seq : Int), .int .u64 ((pickS f).data : Int)], .int .i64 (pickE f)]) := by
  have TB := Lib.hid (fun (V : World) => own10Bank f V hf)
  rcases bankK_cases f with h | h | h
  · have hp := pickS_some (f := f) (by omega)
    have he : pickE f = 0 := pickE_zero.2 (by omega)
    rw [he, hp]
    rw [h] at TB ⊢
    have TG := Lib.hid (fun (V : World) => own08Generation f.b1 V hf.s1)
    have TL := Lib.hid (fun (V : World) => own09Last f.b1 V hf.s1)
    rw [show f.bank 1 = f.b1 from rfl]
    clear hp he h hf
    dsimp only
    generalize genN f.b1 = g at *
    generalize genE f.b1 = ge at *
    generalize lastR f.b1 = r at *
    generalize lastE f.b1 = re at *
    have st := Bs.in2 W 25 [.string f.b0, .string f.b1, .int .i64 f.e0, .int .i64 f.e1, .int .i64 f.lim] 67 [.int .i64 0, .int .u64 0, .int .u64 0, .int .u64 0]
    go_enter Tryz.func35, Tryz.ntmps35
    have fc := And.intro (st.box 1 rfl).f5 (st.box 0 rfl).f4
    go_wp2_with fail; refine callB st (TB.out _) ?_; clear st fc; intro V1 st
    have fc := And.intro (st.box 1 rfl).f5 (st.box 0 rfl).f4
    go_wp2_with fail; refine callB st (TG.out _) ?_; clear st fc; intro V2 st
    have fc := And.intro (st.box 1 rfl).f5 (st.box 0 rfl).f4
    go_wp2_with fail; refine callB st (TL.out _) ?_; clear st fc; intro V3 st
    replace st := st.alloc 112 [.int .i64 r.kind, .int .u64 (r.seq : Int), .int .u64 (r.data : Int)]
    have fc := And.intro (st.box 2 rfl).f5 (And.intro (st.box 1 rfl).f4 (st.box 0 rfl).f3)
    go_wp2
    clear fc
    replace st := st.put4 1 (.int .i64 1) (.int .u64 (g : Int)) (.int .u64 (r.seq : Int)) (.int .u64 (r.data : Int)) rfl; obtain ⟨V4, hV, st⟩ := st; rw [hV]; clear hV
    have fc := And.intro (st.box 2 rfl).f5 (And.intro (st.box 1 rfl).f4 (st.box 0 rfl).f3)
    exact bodyPost_ret (v := .tuple #[.agg #[.int .i64 1, .int .u64 (g : Int), .int .u64 (r.seq : Int), .int .u64 (r.data : Int)], .int .i64 0]) (by simp [results, Tryz.results35, go_sem, fc]) rfl ⟨rfl, st.lo⟩
  · have hp := pickS_some (f := f) (by omega)
    have he : pickE f = 0 := pickE_zero.2 (by omega)
    rw [he, hp]
    rw [h] at TB ⊢
    have TG := Lib.hid (fun (V : World) => own08Generation f.b0 V hf.s0)
    have TL := Lib.hid (fun (V : World) => own09Last f.b0 V hf.s0)
    rw [show f.bank 0 = f.b0 from rfl]
    clear hp he h hf
    dsimp only
    generalize genN f.b0 = g at *
    generalize genE f.b0 = ge at *
    generalize lastR f.b0 = r at *
    generalize lastE f.b0 = re at *
    have st := Bs.in2 W 25 [.string f.b0, .string f.b1, .int .i64 f.e0, .int .i64 f.e1, .int .i64 f.lim] 67 [.int .i64 0, .int .u64 0, .int .u64 0, .int .u64 0]
    go_enter Tryz.func35, Tryz.ntmps35
    have fc := And.intro (st.box 1 rfl).f5 (st.box 0 rfl).f4
    go_wp2_with fail; refine callB st (TB.out _) ?_; clear st fc; intro V1 st
    have fc := And.intro (st.box 1 rfl).f5 (st.box 0 rfl).f4
    go_wp2_with fail; refine callB st (TG.out _) ?_; clear st fc; intro V2 st
    have fc := And.intro (st.box 1 rfl).f5 (st.box 0 rfl).f4
    go_wp2_with fail; refine callB st (TL.out _) ?_; clear st fc; intro V3 st
    replace st := st.alloc 112 [.int .i64 r.kind, .int .u64 (r.seq : Int), .int .u64 (r.data : Int)]
    have fc := And.intro (st.box 2 rfl).f5 (And.intro (st.box 1 rfl).f4 (st.box 0 rfl).f3)
    go_wp2
    clear fc
    replace st := st.put4 1 (.int .i64 0) (.int .u64 (g : Int)) (.int .u64 (r.seq : Int)) (.int .u64 (r.data : Int)) rfl; obtain ⟨V4, hV, st⟩ := st; rw [hV]; clear hV
    have fc := And.intro (st.box 2 rfl).f5 (And.intro (st.box 1 rfl).f4 (st.box 0 rfl).f3)
    exact bodyPost_ret (v := .tuple #[.agg #[.int .i64 0, .int .u64 (g : Int), .int .u64 (r.seq : Int), .int .u64 (r.data : Int)], .int .i64 0]) (by simp [results, Tryz.results35, go_sem, fc]) rfl ⟨rfl, st.lo⟩
  · have hp := pickS_none (f := f) (by omega)
    have he : pickE f = 10 := if_pos (by omega)
    rw [he, hp]
    rw [h] at TB
    clear hp he h hf
    dsimp only
    have st := Bs.in2 W 25 [.string f.b0, .string f.b1, .int .i64 f.e0, .int .i64 f.e1, .int .i64 f.lim] 67 [.int .i64 0, .int .u64 0, .int .u64 0, .int .u64 0]
    go_enter Tryz.func35, Tryz.ntmps35
    have fc := And.intro (st.box 1 rfl).f5 (st.box 0 rfl).f4
    go_wp2_with fail; refine callB st (TB.out _) ?_; clear st fc; intro V1 st
    have fc := And.intro (st.box 1 rfl).f5 (st.box 0 rfl).f4
    go_wp2
    clear fc
    replace st := st.put4 0 (.int .i64 0) (.int .u64 0) (.int .u64 0) (.int .u64 0) rfl; obtain ⟨V2, hV, st⟩ := st; rw [hV]; clear hV
    have fc := And.intro (st.box 1 rfl).f5 (st.box 0 rfl).f4
    exact bodyPost_ret (v := .tuple #[.agg #[.int .i64 0, .int .u64 0, .int .u64 0, .int .u64 0], .int .i64 10]) (by simp [results, Tryz.results35, go_sem, fc]) rfl ⟨rfl, st.lo⟩

set_option maxRecDepth 100000 in
set_option maxHeartbeats 4000000 in
theorem own10Other (n : Int) (W : World) :
    Gives Tryz.prog 59 #[.int .i64 n] W (.int .i64 (otherN n)) := by
  have hB : Below W.heap.size W W := Below.refl _ _
  by_cases h : n = 0
  · have H := Lib.hid (show otherN n = 1 from if_pos h)
    have b1 : (n == 0) = true := beq_iff_eq.2 h
    clear h
    go_enter Tryz.func59, Tryz.ntmps59
    go_wp2
    go_ret
    exact ⟨ret_int H.out.symm, hB⟩
  · have H := Lib.hid (show otherN n = 0 from if_neg h)
    have b1 : (n == 0) = false := beq_eq_false_iff_ne.2 h
    clear h
    go_enter Tryz.func59, Tryz.ntmps59
    go_wp2
    go_ret
    exact ⟨ret_int H.out.symm, hB⟩

set_option maxRecDepth 100000 in
set_option maxHeartbeats 4000000 in
theorem own10Even (f : Fl) (W : World) (hf : f.ok) :
    Gives Tryz.prog 34 #[.agg #[.string f.b0, .string f.b1, .int .i64 f.e0, .int .i64 f.e1, .int .i64 f.lim]] W (.bool (evenF f)) := by
  have T0 := Lib.hid (fun (V : World) => lay05Slots (f.b0.size : Int) V)
  have T1 := Lib.hid (fun (V : World) => lay05Slots (f.b1.size : Int) V)
  have HE := Lib.hid (show evenF f = (decide (slotsF f.b0.size ≠ 0) && decide (f.b0.size = f.b1.size)) from rfl)
  have HS : slotsF (f.b0.size : Int) ≠ 0 → slotsF (f.b1.size : Int) = slotsF (f.b0.size : Int) → f.b0.size = f.b1.size := fun h e => by
    have h0 := slots_size h
    have h1 := slots_size (z := (f.b1.size : Int)) (by rw [e]; exact h)
    omega
  have HT : f.b0.size = f.b1.size → slotsF (f.b1.size : Int) = slotsF (f.b0.size : Int) := fun e => by rw [e]
  have hle := slots_le (f.b0.size : Int)
  generalize evenF f = B at *
  generalize slotsF (f.b0.size : Int) = n at *
  generalize slotsF (f.b1.size : Int) = m at *
  by_cases h1 : n = 0
  · have hB2 := HE.out
    rw [h1] at hB2
    have hB3 : B = false := by rw [hB2]; simp
    subst hB3
    subst h1
    clear hB2 HE HS HT hle
    have st := Bs.in1 W 25 [.string f.b0, .string f.b1, .int .i64 f.e0, .int .i64 f.e1, .int .i64 f.lim]
    go_enter Tryz.func34, Tryz.ntmps34
    have fc := (st.box 0 rfl).f5
    go_wp2_with fail; refine callQ (T0.out _) ?_
    go_wp2; go_ret; exact ⟨rfl, st.lo⟩
  · have m1 : n > 0 := by omega
    by_cases h2 : m = n
    · have hB3 : B = true := by rw [HE.out]; simp [h1, HS h1 h2]
      subst hB3
      subst h2
      clear HE hle HS HT h1
      have st := Bs.in1 W 25 [.string f.b0, .string f.b1, .int .i64 f.e0, .int .i64 f.e1, .int .i64 f.lim]
      go_enter Tryz.func34, Tryz.ntmps34
      have fc := (st.box 0 rfl).f5
      go_wp2_with fail; refine callQ (T0.out _) ?_
      go_wp2_with fail; refine callQ (T1.out _) ?_
      go_wp2; go_ret; exact ⟨rfl, st.lo⟩
    · have hB3 : B = false := by rw [HE.out]; simp [h1]; exact fun e => h2 (HT e)
      subst hB3
      have m2 : (m == n) = false := beq_eq_false_iff_ne.2 h2
      clear HE hle HS HT h1 h2
      have st := Bs.in1 W 25 [.string f.b0, .string f.b1, .int .i64 f.e0, .int .i64 f.e1, .int .i64 f.lim]
      go_enter Tryz.func34, Tryz.ntmps34
      have fc := (st.box 0 rfl).f5
      go_wp2_with fail; refine callQ (T0.out _) ?_
      go_wp2_with fail; refine callQ (T1.out _) ?_
      go_wp2; go_ret; exact ⟨rfl, st.lo⟩

end Go.Proofs.YthmpjoiifglbjaaGreat

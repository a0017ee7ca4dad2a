/- The program's own functions of layer 10: contracts only. -/
import Derived.Test.YtiacdcnpkfpjaaaGreatRows
import Derived.Test.YtiacdcnpkfpjaaaGreatPlanRes
import Derived.Test.YtiacdcnpkfpjaaaGreatBox
import Derived.Test.YtiacdcnpkfpjaaaGreatInts
import Derived.Test.YtiacdcnpkfpjaaaGreatBankOwn
import Derived.Test.YtiacdcnpkfpjaaaGreatScanOwn
import Derived.Test.YtiacdcnpkfpjaaaGreatLayoutOwn
import Derived.WalkKit
import Derived.ProofKit
import Derived.Lib.Hide
import Derived.OwnWalk
import Derived.Deep.RegionHeld3
import Derived.WalkLawsBesides
import Derived.WalkSpells
import Derived.IntWalk
namespace Go.Proofs.YtiacdcnpkfpjaaaGreat
open Go.RowKit
set_option linter.unusedVariables false
set_option linter.unusedSimpArgs false

/-- The generation that a bank claims; 0 where it is not sound. -/
def cgI (s : ByteArray) : Int := if soundB s = true then (genN s : Int) else 0

def grI (a : Bool) (x : Int) (y : Int) : Int := if a = true ∧ ¬ y > x then 0 else 1

theorem pick_at0 (a b : ByteArray) (w : World) : (Instr.index 22 (.agg #[.string a, .string b]) (.int .i64 0)).run Tryz.prog w = .ok (.string a) w := by kernel_rfl
theorem pick_at1 (a b : ByteArray) (w : World) : (Instr.index 22 (.agg #[.string a, .string b]) (.int .i64 1)).run Tryz.prog w = .ok (.string b) w := by kernel_rfl
attribute [local go_sem] pick_at0 pick_at1

set_option maxRecDepth 100000 in
set_option maxHeartbeats 4000000 in
theorem own10Greater (a b : Bool) (x y : Int) (W : World) :
    Calls Tryz.prog 50 #[.agg #[.bool a, .int .u64 x, .bool b, .int .u64 y]] W fun e W' => e = .returned (.int .i64 (grI a x y)) ∧ Below W.heap.size W W' := by
  cases a
  · rw [show grI false x y = 1 from if_neg (fun h => by cases h.1)]
    have hB : Below W.heap.size W (W.alloc (.cells #[.bool false, .int .u64 x, .bool b, .int .u64 y] 91)) := ((Below.refl _ _).alloc (Nat.le_refl _) _)
    have xc := (Box.new 91 W [.bool false, .int .u64 x, .bool b, .int .u64 y])
    go_enter Tryz.func50, Tryz.ntmps50
    have xc0 := xc.cell 0 rfl
    have xcz0 := xc.frozen 0
    have xc1 := xc.cell 1 rfl
    have xcz1 := xc.frozen 1
    have xc2 := xc.cell 2 rfl
    have xcz2 := xc.frozen 2
    have xc3 := xc.cell 3 rfl
    have xcz3 := xc.frozen 3
    go_wp2
    go_ret
    exact ⟨rfl, hB⟩
  · by_cases hxy : y > x
    · rw [show grI true x y = 1 from if_neg (fun h => h.2 hxy)]
      have hB : Below W.heap.size W (W.alloc (.cells #[.bool true, .int .u64 x, .bool b, .int .u64 y] 91)) := ((Below.refl _ _).alloc (Nat.le_refl _) _)
      have xc := (Box.new 91 W [.bool true, .int .u64 x, .bool b, .int .u64 y])
      go_enter Tryz.func50, Tryz.ntmps50
      have xc0 := xc.cell 0 rfl
      have xcz0 := xc.frozen 0
      have xc1 := xc.cell 1 rfl
      have xcz1 := xc.frozen 1
      have xc2 := xc.cell 2 rfl
      have xcz2 := xc.frozen 2
      have xc3 := xc.cell 3 rfl
      have xcz3 := xc.frozen 3
      go_wp2
      go_ret
      exact ⟨rfl, hB⟩
    · rw [show grI true x y = 0 from if_pos ⟨rfl, hxy⟩]
      have hB : Below W.heap.size W (W.alloc (.cells #[.bool true, .int .u64 x, .bool b, .int .u64 y] 91)) := ((Below.refl _ _).alloc (Nat.le_refl _) _)
      have xc := (Box.new 91 W [.bool true, .int .u64 x, .bool b, .int .u64 y])
      go_enter Tryz.func50, Tryz.ntmps50
      have xc0 := xc.cell 0 rfl
      have xcz0 := xc.frozen 0
      have xc1 := xc.cell 1 rfl
      have xcz1 := xc.frozen 1
      have xc2 := xc.cell 2 rfl
      have xcz2 := xc.frozen 2
      have xc3 := xc.cell 3 rfl
      have xcz3 := xc.frozen 3
      go_wp2
      go_ret
      exact ⟨rfl, hB⟩

set_option maxRecDepth 100000 in
set_option maxHeartbeats 4000000 in
theorem own10Claims (f : Fl) (W : World) (hf : f.ok) :
    Calls Tryz.prog 49 #[.agg #[.string f.b0, .string f.b1, .int .i64 f.e0, .int .i64 f.e1, .int .i64 f.lim]] W fun e W' => e = .returned (.agg #[.bool (soundB f.b0), .int .u64 (cgI f.b0), .bool (soundB f.b1), .int .u64 (cgI f.b1)]) ∧ Below W.heap.size W W' := by
  have TS0 := Lib.hid (fun (V : World) => own09Sound f.b0 V hf.s0)
  have TS1 := Lib.hid (fun (V : World) => own09Sound f.b1 V hf.s1)
  have TG0 := Lib.hid (fun (V : World) => own08Generation f.b0 V hf.s0)
  have TG1 := Lib.hid (fun (V : World) => own08Generation f.b1 V hf.s1)
  have HC0 := Lib.hid (show cgI f.b0 = if soundB f.b0 = true then (genN f.b0 : Int) else 0 from rfl)
  have HC1 := Lib.hid (show cgI f.b1 = if soundB f.b1 = true then (genN f.b1 : Int) else 0 from rfl)
  generalize cgI f.b0 = c0 at *
  generalize cgI f.b1 = c1 at *
  generalize soundB f.b0 = a0 at *
  generalize soundB f.b1 = a1 at *
  generalize genN f.b0 = g0 at *
  generalize genN f.b1 = g1 at *
  generalize genE f.b0 = e0 at *
  generalize genE f.b1 = e1 at *
  clear hf
  have hB : Below W.heap.size W (((W.alloc (.cells #[.string f.b0, .string f.b1, .int .i64 f.e0, .int .i64 f.e1, .int .i64 f.lim] 25)).alloc (.cells #[.bool false, .int .u64 0, .bool false, .int .u64 0] 91)).alloc (.cells #[.bool false, .int .u64 0, .bool false, .int .u64 0] 91)) := ((((Below.refl _ _).alloc (Nat.le_refl _) _).alloc (by simp) _).alloc (by simp; omega) _)
  have xf := (((Box.new 25 W [.string f.b0, .string f.b1, .int .i64 f.e0, .int .i64 f.e1, .int .i64 f.lim]).alloc (.cells #[.bool false, .int .u64 0, .bool false, .int .u64 0] 91)).alloc (.cells #[.bool false, .int .u64 0, .bool false, .int .u64 0] 91))
  have xo : Box 91 (((W.alloc (.cells #[.string f.b0, .string f.b1, .int .i64 f.e0, .int .i64 f.e1, .int .i64 f.lim] 25)).alloc (.cells #[.bool false, .int .u64 0, .bool false, .int .u64 0] 91)).alloc (.cells #[.bool false, .int .u64 0, .bool false, .int .u64 0] 91)) (W.heap.size + 1) [.bool false, .int .u64 0, .bool false, .int .u64 0] := by have h := ((Box.new 91 (W.alloc (.cells #[.string f.b0, .string f.b1, .int .i64 f.e0, .int .i64 f.e1, .int .i64 f.lim] 25)) [.bool false, .int .u64 0, .bool false, .int .u64 0]).alloc (.cells #[.bool false, .int .u64 0, .bool false, .int .u64 0] 91)); rwa [World.size_alloc] at h
  have le_xo : W.heap.size ≤ W.heap.size + 1 := by omega
  have xb : Box 91 (((W.alloc (.cells #[.string f.b0, .string f.b1, .int .i64 f.e0, .int .i64 f.e1, .int .i64 f.lim] 25)).alloc (.cells #[.bool false, .int .u64 0, .bool false, .int .u64 0] 91)).alloc (.cells #[.bool false, .int .u64 0, .bool false, .int .u64 0] 91)) (W.heap.size + 1 + 1) [.bool false, .int .u64 0, .bool false, .int .u64 0] := by have h := (Box.new 91 ((W.alloc (.cells #[.string f.b0, .string f.b1, .int .i64 f.e0, .int .i64 f.e1, .int .i64 f.lim] 25)).alloc (.cells #[.bool false, .int .u64 0, .bool false, .int .u64 0] 91)) [.bool false, .int .u64 0, .bool false, .int .u64 0]); rwa [World.size_alloc, World.size_alloc] at h
  have le_xb : W.heap.size ≤ W.heap.size + 1 + 1 := by omega
  go_enter Tryz.func49, Tryz.ntmps49
  have xf0 := xf.cell 0 rfl
  have xfz0 := xf.frozen 0
  have xf1 := xf.cell 1 rfl
  have xfz1 := xf.frozen 1
  have xf2 := xf.cell 2 rfl
  have xfz2 := xf.frozen 2
  have xf3 := xf.cell 3 rfl
  have xfz3 := xf.frozen 3
  have xf4 := xf.cell 4 rfl
  have xfz4 := xf.frozen 4
  have xo0 := xo.cell 0 rfl
  have xoz0 := xo.frozen 0
  have xo1 := xo.cell 1 rfl
  have xoz1 := xo.frozen 1
  have xo2 := xo.cell 2 rfl
  have xoz2 := xo.frozen 2
  have xo3 := xo.cell 3 rfl
  have xoz3 := xo.frozen 3
  have xb0 := xb.cell 0 rfl
  have xbz0 := xb.frozen 0
  have xb1 := xb.cell 1 rfl
  have xbz1 := xb.frozen 1
  have xb2 := xb.cell 2 rfl
  have xbz2 := xb.frozen 2
  have xb3 := xb.cell 3 rfl
  have xbz3 := xb.frozen 3
  go_wp2
  clear xf0 xfz0 xf1 xfz1 xf2 xfz2 xf3 xfz3 xf4 xfz4 xo0 xoz0 xo1 xoz1 xo2 xoz2 xo3 xoz3 xb0 xbz0 xb1 xbz1 xb2 xbz2 xb3 xbz3
  have hB2 : Below W.heap.size W ((W.alloc (.cells #[.string f.b0, .string f.b1, .int .i64 f.e0, .int .i64 f.e1, .int .i64 f.lim] 25)).alloc (.cells #[.bool false, .int .u64 0, .bool false, .int .u64 0] 91)) := ((Below.refl _ _).alloc (Nat.le_refl _) _).alloc (by simp) _
  have yo : Box 91 ((W.alloc (.cells #[.string f.b0, .string f.b1, .int .i64 f.e0, .int .i64 f.e1, .int .i64 f.lim] 25)).alloc (.cells #[.bool false, .int .u64 0, .bool false, .int .u64 0] 91)) (W.heap.size + 1) [.bool false, .int .u64 0, .bool false, .int .u64 0] := by have h := Box.new 91 (W.alloc (.cells #[.string f.b0, .string f.b1, .int .i64 f.e0, .int .i64 f.e1, .int .i64 f.lim] 25)) [.bool false, .int .u64 0, .bool false, .int .u64 0]; rwa [World.size_alloc] at h
  have hsz : ((W.alloc (.cells #[.string f.b0, .string f.b1, .int .i64 f.e0, .int .i64 f.e1, .int .i64 f.lim] 25)).alloc (.cells #[.bool false, .int .u64 0, .bool false, .int .u64 0] 91)).heap.size = W.heap.size + 1 + 1 := by rw [World.size_alloc, World.size_alloc]
  have hsz2 : W.heap.size + 1 + 1 = W.heap.size + 2 := rfl
  clear hB xo xf
  generalize ((W.alloc (.cells #[.string f.b0, .string f.b1, .int .i64 f.e0, .int .i64 f.e1, .int .i64 f.lim] 25)).alloc (.cells #[.bool false, .int .u64 0, .bool false, .int .u64 0] 91)) = V at *
  try rw [hsz2] at hsz
  skip
  have xb : Box 91 (V.alloc (.cells #[.bool false, .int .u64 0, .bool false, .int .u64 0] 91)) V.heap.size [.bool false, .int .u64 0, .bool false, .int .u64 0] := Box.new _ _ _
  have hV0 : Below V.heap.size V (V.alloc (.cells #[.bool false, .int .u64 0, .bool false, .int .u64 0] 91)) := (Below.refl _ _).alloc (Nat.le_refl _) _
  rw [← hsz]
  generalize V.alloc (.cells #[.bool false, .int .u64 0, .bool false, .int .u64 0] 91) = U at *
  replace hsz := Lib.hid hsz
  go_loopw [10] (fun i w => (∃ j : Nat, j ≤ 2 ∧ i = .int .i64 j ∧ (j = 0 → Box 91 w V.heap.size [.bool false, .int .u64 0, .bool false, .int .u64 0]) ∧ (j = 1 → Box 91 w V.heap.size [.bool a0, .int .u64 c0, .bool false, .int .u64 0]) ∧ (j = 2 → Box 91 w V.heap.size [.bool a0, .int .u64 c0, .bool a1, .int .u64 c1]) ∧ Below V.heap.size V w)) (fun i _ => 2 - (intOf i).toNat)
  case atStart => exact ⟨0, by omega, rfl, fun _ => xb, fun h => by omega, fun h => by omega, hV0⟩
  case round =>
    clear xb hV0
    obtain ⟨j, hj, rfl, x0, x1, x2, hV⟩ := hrel
    rcases (show j = 0 ∨ j = 1 ∨ j = 2 from by omega) with rfl | rfl | rfl
    · have xb := x0 rfl
      have hB := hV
      clear x0 x1 x2 hV
      cases a0
      · have hc := HC0.out
        rw [if_neg (by decide)] at hc
        subst hc
        go_wp2_with fail
        refine (TS0.out _).mono ?_
        rintro e V21 ⟨rfl, hk⟩
        replace hB := below_seq hB hk
        replace xb := xb.seq hk
        clear hk
        have xb0 := xb.cell 0 rfl
        have xbz0 := xb.frozen 0
        have xb1 := xb.cell 1 rfl
        have xbz1 := xb.frozen 1
        have xb2 := xb.cell 2 rfl
        have xbz2 := xb.frozen 2
        have xb3 := xb.cell 3 rfl
        have xbz3 := xb.frozen 3
        go_wp2
        go_roundw
        clear xb0 xbz0 xb1 xbz1 xb2 xbz2 xb3 xbz3
        case rel => exact ⟨1, by omega, rfl, fun h => by omega, fun _ => xb, fun h => by omega, hB⟩
        case measure => simp [intOf]
      · have hc := HC0.out
        rw [if_pos rfl] at hc
        subst hc
        go_wp2_with fail
        refine (TS0.out _).mono ?_
        rintro e V21 ⟨rfl, hk⟩
        replace hB := below_seq hB hk
        replace xb := xb.seq hk
        clear hk
        have xb0 := xb.cell 0 rfl
        have xbz0 := xb.frozen 0
        have xb1 := xb.cell 1 rfl
        have xbz1 := xb.frozen 1
        have xb2 := xb.cell 2 rfl
        have xbz2 := xb.frozen 2
        have xb3 := xb.cell 3 rfl
        have xbz3 := xb.frozen 3
        go_wp2_with fail
        refine (TG0.out _).mono ?_
        rintro e V22 ⟨rfl, hk⟩
        clear xb0 xbz0 xb1 xbz1 xb2 xbz2 xb3 xbz3
        replace hB := below_seq hB hk
        replace xb := xb.seq hk
        clear hk
        have xb0 := xb.cell 0 rfl
        have xbz0 := xb.frozen 0
        have xb1 := xb.cell 1 rfl
        have xbz1 := xb.frozen 1
        have xb2 := xb.cell 2 rfl
        have xbz2 := xb.frozen 2
        have xb3 := xb.cell 3 rfl
        have xbz3 := xb.frozen 3
        go_wp2
        clear xb0 xbz0 xb1 xbz1 xb2 xbz2 xb3 xbz3
        replace xb : Box 91 ((V22.setCell ⟨V.heap.size, 0, none⟩ (.bool true)).setCell ⟨V.heap.size, 1, none⟩ (.int .u64 (g0 : Int))) (V.heap.size) [.bool true, .int .u64 (g0 : Int), .bool false, .int .u64 0] := ((xb.set 0 (.bool true)).set 1 (.int .u64 (g0 : Int)))
        replace hB : Below V.heap.size V ((V22.setCell ⟨V.heap.size, 0, none⟩ (.bool true)).setCell ⟨V.heap.size, 1, none⟩ (.int .u64 (g0 : Int))) := ((hB.setCell (Nat.le_refl _) _).setCell (Nat.le_refl _) _)
        generalize ((V22.setCell ⟨V.heap.size, 0, none⟩ (.bool true)).setCell ⟨V.heap.size, 1, none⟩ (.int .u64 (g0 : Int))) = V23 at *
        have xb0 := xb.cell 0 rfl
        have xbz0 := xb.frozen 0
        have xb1 := xb.cell 1 rfl
        have xbz1 := xb.frozen 1
        have xb2 := xb.cell 2 rfl
        have xbz2 := xb.frozen 2
        have xb3 := xb.cell 3 rfl
        have xbz3 := xb.frozen 3
        go_roundw
        clear xb0 xbz0 xb1 xbz1 xb2 xbz2 xb3 xbz3
        case rel => exact ⟨1, by omega, rfl, fun h => by omega, fun _ => xb, fun h => by omega, hB⟩
        case measure => simp [intOf]
    · have xb := x1 rfl
      have hB := hV
      clear x0 x1 x2 hV
      cases a1
      · have hc := HC1.out
        rw [if_neg (by decide)] at hc
        subst hc
        go_wp2_with fail
        refine (TS1.out _).mono ?_
        rintro e V21 ⟨rfl, hk⟩
        replace hB := below_seq hB hk
        replace xb := xb.seq hk
        clear hk
        have xb0 := xb.cell 0 rfl
        have xbz0 := xb.frozen 0
        have xb1 := xb.cell 1 rfl
        have xbz1 := xb.frozen 1
        have xb2 := xb.cell 2 rfl
        have xbz2 := xb.frozen 2
        have xb3 := xb.cell 3 rfl
        have xbz3 := xb.frozen 3
        go_wp2
        go_roundw
        clear xb0 xbz0 xb1 xbz1 xb2 xbz2 xb3 xbz3
        case rel => exact ⟨2, by omega, rfl, fun h => by omega, fun h => by omega, fun _ => xb, hB⟩
        case measure => simp [intOf]
      · have hc := HC1.out
        rw [if_pos rfl] at hc
        subst hc
        go_wp2_with fail
        refine (TS1.out _).mono ?_
        rintro e V21 ⟨rfl, hk⟩
        replace hB := below_seq hB hk
        replace xb := xb.seq hk
        clear hk
        have xb0 := xb.cell 0 rfl
        have xbz0 := xb.frozen 0
        have xb1 := xb.cell 1 rfl
        have xbz1 := xb.frozen 1
        have xb2 := xb.cell 2 rfl
        have xbz2 := xb.frozen 2
        have xb3 := xb.cell 3 rfl
        have xbz3 := xb.frozen 3
        go_wp2_with fail
        refine (TG1.out _).mono ?_
        rintro e V22 ⟨rfl, hk⟩
        clear xb0 xbz0 xb1 xbz1 xb2 xbz2 xb3 xbz3
        replace hB := below_seq hB hk
        replace xb := xb.seq hk
        clear hk
        have xb0 := xb.cell 0 rfl
        have xbz0 := xb.frozen 0
        have xb1 := xb.cell 1 rfl
        have xbz1 := xb.frozen 1
        have xb2 := xb.cell 2 rfl
        have xbz2 := xb.frozen 2
        have xb3 := xb.cell 3 rfl
        have xbz3 := xb.frozen 3
        go_wp2
        clear xb0 xbz0 xb1 xbz1 xb2 xbz2 xb3 xbz3
        replace xb : Box 91 ((V22.setCell ⟨V.heap.size, 2, none⟩ (.bool true)).setCell ⟨V.heap.size, 3, none⟩ (.int .u64 (g1 : Int))) (V.heap.size) [.bool a0, .int .u64 c0, .bool true, .int .u64 (g1 : Int)] := ((xb.set 2 (.bool true)).set 3 (.int .u64 (g1 : Int)))
        replace hB : Below V.heap.size V ((V22.setCell ⟨V.heap.size, 2, none⟩ (.bool true)).setCell ⟨V.heap.size, 3, none⟩ (.int .u64 (g1 : Int))) := ((hB.setCell (Nat.le_refl _) _).setCell (Nat.le_refl _) _)
        generalize ((V22.setCell ⟨V.heap.size, 2, none⟩ (.bool true)).setCell ⟨V.heap.size, 3, none⟩ (.int .u64 (g1 : Int))) = V23 at *
        have xb0 := xb.cell 0 rfl
        have xbz0 := xb.frozen 0
        have xb1 := xb.cell 1 rfl
        have xbz1 := xb.frozen 1
        have xb2 := xb.cell 2 rfl
        have xbz2 := xb.frozen 2
        have xb3 := xb.cell 3 rfl
        have xbz3 := xb.frozen 3
        go_roundw
        clear xb0 xbz0 xb1 xbz1 xb2 xbz2 xb3 xbz3
        case rel => exact ⟨2, by omega, rfl, fun h => by omega, fun h => by omega, fun _ => xb, hB⟩
        case measure => simp [intOf]
    · have xb := x2 rfl
      have hB := below_seq hB2 hV
      have xo := yo.seq hV
      clear x0 x1 x2 hB2 yo
      have hsz := hsz.out
      have le_xo : W.heap.size ≤ W.heap.size + 1 := by omega
      have ne_xb_xo : V.heap.size ≠ W.heap.size + 1 := by omega
      clear hsz
      have xb0 := xb.cell 0 rfl
      have xbz0 := xb.frozen 0
      have xb1 := xb.cell 1 rfl
      have xbz1 := xb.frozen 1
      have xb2 := xb.cell 2 rfl
      have xbz2 := xb.frozen 2
      have xb3 := xb.cell 3 rfl
      have xbz3 := xb.frozen 3
      have xo0 := xo.cell 0 rfl
      have xoz0 := xo.frozen 0
      have xo1 := xo.cell 1 rfl
      have xoz1 := xo.frozen 1
      have xo2 := xo.cell 2 rfl
      have xoz2 := xo.frozen 2
      have xo3 := xo.cell 3 rfl
      have xoz3 := xo.frozen 3
      go_wp2
      clear xb0 xbz0 xb1 xbz1 xb2 xbz2 xb3 xbz3 xo0 xoz0 xo1 xoz1 xo2 xoz2 xo3 xoz3
      replace xb : Box 91 ((((wr.setCell ⟨W.heap.size + 1, 0, none⟩ (.bool a0)).setCell ⟨W.heap.size + 1, 1, none⟩ (.int .u64 c0)).setCell ⟨W.heap.size + 1, 2, none⟩ (.bool a1)).setCell ⟨W.heap.size + 1, 3, none⟩ (.int .u64 c1)) (V.heap.size) [.bool a0, .int .u64 c0, .bool a1, .int .u64 c1] := ((((xb.other (Ne.symm ne_xb_xo) 0 (.bool a0)).other (Ne.symm ne_xb_xo) 1 (.int .u64 c0)).other (Ne.symm ne_xb_xo) 2 (.bool a1)).other (Ne.symm ne_xb_xo) 3 (.int .u64 c1))
      replace xo : Box 91 ((((wr.setCell ⟨W.heap.size + 1, 0, none⟩ (.bool a0)).setCell ⟨W.heap.size + 1, 1, none⟩ (.int .u64 c0)).setCell ⟨W.heap.size + 1, 2, none⟩ (.bool a1)).setCell ⟨W.heap.size + 1, 3, none⟩ (.int .u64 c1)) (W.heap.size + 1) [.bool a0, .int .u64 c0, .bool a1, .int .u64 c1] := ((((xo.set 0 (.bool a0)).set 1 (.int .u64 c0)).set 2 (.bool a1)).set 3 (.int .u64 c1))
      replace hB : Below W.heap.size W ((((wr.setCell ⟨W.heap.size + 1, 0, none⟩ (.bool a0)).setCell ⟨W.heap.size + 1, 1, none⟩ (.int .u64 c0)).setCell ⟨W.heap.size + 1, 2, none⟩ (.bool a1)).setCell ⟨W.heap.size + 1, 3, none⟩ (.int .u64 c1)) := ((((hB.setCell le_xo _).setCell le_xo _).setCell le_xo _).setCell le_xo _)
      generalize ((((wr.setCell ⟨W.heap.size + 1, 0, none⟩ (.bool a0)).setCell ⟨W.heap.size + 1, 1, none⟩ (.int .u64 c0)).setCell ⟨W.heap.size + 1, 2, none⟩ (.bool a1)).setCell ⟨W.heap.size + 1, 3, none⟩ (.int .u64 c1)) = V41 at *
      have xb0 := xb.cell 0 rfl
      have xbz0 := xb.frozen 0
      have xb1 := xb.cell 1 rfl
      have xbz1 := xb.frozen 1
      have xb2 := xb.cell 2 rfl
      have xbz2 := xb.frozen 2
      have xb3 := xb.cell 3 rfl
      have xbz3 := xb.frozen 3
      have xo0 := xo.cell 0 rfl
      have xoz0 := xo.frozen 0
      have xo1 := xo.cell 1 rfl
      have xoz1 := xo.frozen 1
      have xo2 := xo.cell 2 rfl
      have xoz2 := xo.frozen 2
      have xo3 := xo.cell 3 rfl
      have xoz3 := xo.frozen 3
      exact bodyPost_ret (v := .agg #[.bool a0, .int .u64 c0, .bool a1, .int .u64 c1]) (by simp [results, Tryz.results49, go_sem, xo0, xo1, xo2, xo3]) rfl ⟨rfl, hB⟩

set_option maxRecDepth 100000 in
set_option maxHeartbeats 4000000 in
theorem own10Bank (f : Fl) (W : World) (hf : f.ok) :
    Calls Tryz.prog 28 #[.agg #[.string f.b0, .string f.b1, .int .i64 f.e0, .int .i64 f.e1, .int .i64 f.lim]] W fun e W' => e = .returned (.int .i64 (bankK f)) ∧ Below W.heap.size W W' := by
  have TC := Lib.hid (fun (V : World) => own10Claims f V hf)
  have HB : bankK f = (if soundB f.b0 = true ∧ soundB f.b1 = true ∧ genN f.b0 < genN f.b1 then 1 else if soundB f.b0 = true then 0 else if soundB f.b1 = true then 1 else -1) := rfl
  have HC0 : cgI f.b0 = if soundB f.b0 = true then (genN f.b0 : Int) else 0 := rfl
  have HC1 : cgI f.b1 = if soundB f.b1 = true then (genN f.b1 : Int) else 0 := rfl
  generalize bankK f = K at *
  generalize cgI f.b0 = c0 at *
  generalize cgI f.b1 = c1 at *
  generalize soundB f.b0 = a at *
  generalize soundB f.b1 = b at *
  generalize genN f.b0 = x at *
  generalize genN f.b1 = y at *
  clear hf
  cases a
  · rw [if_neg (by decide)] at HC0
    subst HC0
    cases b
    · rw [if_neg (by decide)] at HC1
      subst HC1
      have hK : K = -1 := by rw [HB]; simp
      rw [hK]
      clear HB hK
      have hB : Below W.heap.size W (W.alloc (.cells #[.string f.b0, .string f.b1, .int .i64 f.e0, .int .i64 f.e1, .int .i64 f.lim] 25)) := ((Below.refl _ _).alloc (Nat.le_refl _) _)
      have xf := (Box.new 25 W [.string f.b0, .string f.b1, .int .i64 f.e0, .int .i64 f.e1, .int .i64 f.lim])
      go_enter Tryz.func28, Tryz.ntmps28
      have xf0 := xf.cell 0 rfl
      have xfz0 := xf.frozen 0
      have xf1 := xf.cell 1 rfl
      have xfz1 := xf.frozen 1
      have xf2 := xf.cell 2 rfl
      have xfz2 := xf.frozen 2
      have xf3 := xf.cell 3 rfl
      have xfz3 := xf.frozen 3
      have xf4 := xf.cell 4 rfl
      have xfz4 := xf.frozen 4
      go_wp2_with fail
      refine (TC.out _).mono ?_
      rintro e V1 ⟨rfl, hk⟩
      clear xf0 xfz0 xf1 xfz1 xf2 xfz2 xf3 xfz3 xf4 xfz4
      replace hB := below_seq hB hk
      replace xf := xf.seq hk
      clear hk
      have xf0 := xf.cell 0 rfl
      have xfz0 := xf.frozen 0
      have xf1 := xf.cell 1 rfl
      have xfz1 := xf.frozen 1
      have xf2 := xf.cell 2 rfl
      have xfz2 := xf.frozen 2
      have xf3 := xf.cell 3 rfl
      have xfz3 := xf.frozen 3
      have xf4 := xf.cell 4 rfl
      have xfz4 := xf.frozen 4
      clear xf0 xfz0 xf1 xfz1 xf2 xfz2 xf3 xfz3 xf4 xfz4
      have xb := Box.new 91 V1 [.bool false, .int .u64 0, .bool false, .int .u64 0]
      have ne_xb_xf : V1.heap.size ≠ W.heap.size := Nat.ne_of_gt xf.lt
      have le_xb : W.heap.size ≤ V1.heap.size := hB.size
      replace xf := xf.alloc (.cells #[.bool false, .int .u64 0, .bool false, .int .u64 0] 91)
      replace hB := hB.alloc hB.size (.cells #[.bool false, .int .u64 0, .bool false, .int .u64 0] 91)
      have xf0 := xf.cell 0 rfl
      have xfz0 := xf.frozen 0
      have xf1 := xf.cell 1 rfl
      have xfz1 := xf.frozen 1
      have xf2 := xf.cell 2 rfl
      have xfz2 := xf.frozen 2
      have xf3 := xf.cell 3 rfl
      have xfz3 := xf.frozen 3
      have xf4 := xf.cell 4 rfl
      have xfz4 := xf.frozen 4
      have xb0 := xb.cell 0 rfl
      have xbz0 := xb.frozen 0
      have xb1 := xb.cell 1 rfl
      have xbz1 := xb.frozen 1
      have xb2 := xb.cell 2 rfl
      have xbz2 := xb.frozen 2
      have xb3 := xb.cell 3 rfl
      have xbz3 := xb.frozen 3
      go_wp2
      go_ret
      exact ⟨rfl, hB⟩
    · rw [if_pos rfl] at HC1
      subst HC1
      have hK : K = 1 := by rw [HB]; simp
      rw [hK]
      clear HB hK
      have TGr := Lib.hid (fun (V : World) => (show Calls Tryz.prog 50 #[.agg #[.bool false, .int .u64 0, .bool true, .int .u64 (y : Int)]] V fun e W' => e = .returned (.int .i64 1) ∧ Below V.heap.size V W' from by have h := own10Greater false true 0 (y : Int) V; rwa [show grI false 0 (y : Int) = 1 from if_neg (fun h => by cases h.1)] at h))
      have hB : Below W.heap.size W (W.alloc (.cells #[.string f.b0, .string f.b1, .int .i64 f.e0, .int .i64 f.e1, .int .i64 f.lim] 25)) := ((Below.refl _ _).alloc (Nat.le_refl _) _)
      have xf := (Box.new 25 W [.string f.b0, .string f.b1, .int .i64 f.e0, .int .i64 f.e1, .int .i64 f.lim])
      go_enter Tryz.func28, Tryz.ntmps28
      have xf0 := xf.cell 0 rfl
      have xfz0 := xf.frozen 0
      have xf1 := xf.cell 1 rfl
      have xfz1 := xf.frozen 1
      have xf2 := xf.cell 2 rfl
      have xfz2 := xf.frozen 2
      have xf3 := xf.cell 3 rfl
      have xfz3 := xf.frozen 3
      have xf4 := xf.cell 4 rfl
      have xfz4 := xf.frozen 4
      go_wp2_with fail
      refine (TC.out _).mono ?_
      rintro e V1 ⟨rfl, hk⟩
      clear xf0 xfz0 xf1 xfz1 xf2 xfz2 xf3 xfz3 xf4 xfz4
      replace hB := below_seq hB hk
      replace xf := xf.seq hk
      clear hk
      have xf0 := xf.cell 0 rfl
      have xfz0 := xf.frozen 0
      have xf1 := xf.cell 1 rfl
      have xfz1 := xf.frozen 1
      have xf2 := xf.cell 2 rfl
      have xfz2 := xf.frozen 2
      have xf3 := xf.cell 3 rfl
      have xfz3 := xf.frozen 3
      have xf4 := xf.cell 4 rfl
      have xfz4 := xf.frozen 4
      clear xf0 xfz0 xf1 xfz1 xf2 xfz2 xf3 xfz3 xf4 xfz4
      have xb := Box.new 91 V1 [.bool false, .int .u64 0, .bool true, .int .u64 (y : Int)]
      have ne_xb_xf : V1.heap.size ≠ W.heap.size := Nat.ne_of_gt xf.lt
      have le_xb : W.heap.size ≤ V1.heap.size := hB.size
      replace xf := xf.alloc (.cells #[.bool false, .int .u64 0, .bool true, .int .u64 (y : Int)] 91)
      replace hB := hB.alloc hB.size (.cells #[.bool false, .int .u64 0, .bool true, .int .u64 (y : Int)] 91)
      have xf0 := xf.cell 0 rfl
      have xfz0 := xf.frozen 0
      have xf1 := xf.cell 1 rfl
      have xfz1 := xf.frozen 1
      have xf2 := xf.cell 2 rfl
      have xfz2 := xf.frozen 2
      have xf3 := xf.cell 3 rfl
      have xfz3 := xf.frozen 3
      have xf4 := xf.cell 4 rfl
      have xfz4 := xf.frozen 4
      have xb0 := xb.cell 0 rfl
      have xbz0 := xb.frozen 0
      have xb1 := xb.cell 1 rfl
      have xbz1 := xb.frozen 1
      have xb2 := xb.cell 2 rfl
      have xbz2 := xb.frozen 2
      have xb3 := xb.cell 3 rfl
      have xbz3 := xb.frozen 3
      go_wp2_with fail
      refine (TGr.out _).mono ?_
      rintro e V2 ⟨rfl, hk⟩
      clear xf0 xfz0 xf1 xfz1 xf2 xfz2 xf3 xfz3 xf4 xfz4 xb0 xbz0 xb1 xbz1 xb2 xbz2 xb3 xbz3
      replace hB := below_seq hB hk
      replace xf := xf.seq hk
      replace xb := xb.seq hk
      clear hk
      have xf0 := xf.cell 0 rfl
      have xfz0 := xf.frozen 0
      have xf1 := xf.cell 1 rfl
      have xfz1 := xf.frozen 1
      have xf2 := xf.cell 2 rfl
      have xfz2 := xf.frozen 2
      have xf3 := xf.cell 3 rfl
      have xfz3 := xf.frozen 3
      have xf4 := xf.cell 4 rfl
      have xfz4 := xf.frozen 4
      have xb0 := xb.cell 0 rfl
      have xbz0 := xb.frozen 0
      have xb1 := xb.cell 1 rfl
      have xbz1 := xb.frozen 1
      have xb2 := xb.cell 2 rfl
      have xbz2 := xb.frozen 2
      have xb3 := xb.cell 3 rfl
      have xbz3 := xb.frozen 3
      go_wp2
      go_ret
      exact ⟨rfl, hB⟩
  · rw [if_pos rfl] at HC0
    subst HC0
    cases b
    · rw [if_neg (by decide)] at HC1
      subst HC1
      have hK : K = 0 := by rw [HB]; simp
      rw [hK]
      clear HB hK
      have TGr := Lib.hid (fun (V : World) => (show Calls Tryz.prog 50 #[.agg #[.bool true, .int .u64 (x : Int), .bool false, .int .u64 0]] V fun e W' => e = .returned (.int .i64 0) ∧ Below V.heap.size V W' from by have h := own10Greater true false (x : Int) 0 V; rwa [show grI true (x : Int) 0 = 0 from if_pos ⟨rfl, by omega⟩] at h))
      have hB : Below W.heap.size W (W.alloc (.cells #[.string f.b0, .string f.b1, .int .i64 f.e0, .int .i64 f.e1, .int .i64 f.lim] 25)) := ((Below.refl _ _).alloc (Nat.le_refl _) _)
      have xf := (Box.new 25 W [.string f.b0, .string f.b1, .int .i64 f.e0, .int .i64 f.e1, .int .i64 f.lim])
      go_enter Tryz.func28, Tryz.ntmps28
      have xf0 := xf.cell 0 rfl
      have xfz0 := xf.frozen 0
      have xf1 := xf.cell 1 rfl
      have xfz1 := xf.frozen 1
      have xf2 := xf.cell 2 rfl
      have xfz2 := xf.frozen 2
      have xf3 := xf.cell 3 rfl
      have xfz3 := xf.frozen 3
      have xf4 := xf.cell 4 rfl
      have xfz4 := xf.frozen 4
      go_wp2_with fail
      refine (TC.out _).mono ?_
      rintro e V1 ⟨rfl, hk⟩
      clear xf0 xfz0 xf1 xfz1 xf2 xfz2 xf3 xfz3 xf4 xfz4
      replace hB := below_seq hB hk
      replace xf := xf.seq hk
      clear hk
      have xf0 := xf.cell 0 rfl
      have xfz0 := xf.frozen 0
      have xf1 := xf.cell 1 rfl
      have xfz1 := xf.frozen 1
      have xf2 := xf.cell 2 rfl
      have xfz2 := xf.frozen 2
      have xf3 := xf.cell 3 rfl
      have xfz3 := xf.frozen 3
      have xf4 := xf.cell 4 rfl
      have xfz4 := xf.frozen 4
      clear xf0 xfz0 xf1 xfz1 xf2 xfz2 xf3 xfz3 xf4 xfz4
      have xb := Box.new 91 V1 [.bool true, .int .u64 (x : Int), .bool false, .int .u64 0]
      have ne_xb_xf : V1.heap.size ≠ W.heap.size := Nat.ne_of_gt xf.lt
      have le_xb : W.heap.size ≤ V1.heap.size := hB.size
      replace xf := xf.alloc (.cells #[.bool true, .int .u64 (x : Int), .bool false, .int .u64 0] 91)
      replace hB := hB.alloc hB.size (.cells #[.bool true, .int .u64 (x : Int), .bool false, .int .u64 0] 91)
      have xf0 := xf.cell 0 rfl
      have xfz0 := xf.frozen 0
      have xf1 := xf.cell 1 rfl
      have xfz1 := xf.frozen 1
      have xf2 := xf.cell 2 rfl
      have xfz2 := xf.frozen 2
      have xf3 := xf.cell 3 rfl
      have xfz3 := xf.frozen 3
      have xf4 := xf.cell 4 rfl
      have xfz4 := xf.frozen 4
      have xb0 := xb.cell 0 rfl
      have xbz0 := xb.frozen 0
      have xb1 := xb.cell 1 rfl
      have xbz1 := xb.frozen 1
      have xb2 := xb.cell 2 rfl
      have xbz2 := xb.frozen 2
      have xb3 := xb.cell 3 rfl
      have xbz3 := xb.frozen 3
      go_wp2_with fail
      refine (TGr.out _).mono ?_
      rintro e V2 ⟨rfl, hk⟩
      clear xf0 xfz0 xf1 xfz1 xf2 xfz2 xf3 xfz3 xf4 xfz4 xb0 xbz0 xb1 xbz1 xb2 xbz2 xb3 xbz3
      replace hB := below_seq hB hk
      replace xf := xf.seq hk
      replace xb := xb.seq hk
      clear hk
      have xf0 := xf.cell 0 rfl
      have xfz0 := xf.frozen 0
      have xf1 := xf.cell 1 rfl
      have xfz1 := xf.frozen 1
      have xf2 := xf.cell 2 rfl
      have xfz2 := xf.frozen 2
      have xf3 := xf.cell 3 rfl
      have xfz3 := xf.frozen 3
      have xf4 := xf.cell 4 rfl
      have xfz4 := xf.frozen 4
      have xb0 := xb.cell 0 rfl
      have xbz0 := xb.frozen 0
      have xb1 := xb.cell 1 rfl
      have xbz1 := xb.frozen 1
      have xb2 := xb.cell 2 rfl
      have xbz2 := xb.frozen 2
      have xb3 := xb.cell 3 rfl
      have xbz3 := xb.frozen 3
      go_wp2
      go_ret
      exact ⟨rfl, hB⟩
    · rw [if_pos rfl] at HC1
      subst HC1
      rcases Nat.lt_trichotomy x y with hxy | hxy | hxy
      · have hK : K = 1 := by rw [HB, if_pos ⟨rfl, rfl, hxy⟩]
        rw [hK]
        have TGr := Lib.hid (fun (V : World) => (show Calls Tryz.prog 50 #[.agg #[.bool true, .int .u64 (x : Int), .bool true, .int .u64 (y : Int)]] V fun e W' => e = .returned (.int .i64 1) ∧ Below V.heap.size V W' from by have h := own10Greater true true (x : Int) (y : Int) V; rwa [show grI true (x : Int) (y : Int) = 1 from if_neg (fun h => h.2 (by omega))] at h))
        have n1 : ((x : Int) == (y : Int)) = false := beq_eq_false_iff_ne.2 (by omega)
        have n2 : ¬ (x : Int) = (y : Int) := by omega
        clear HB hK hxy
        have hB : Below W.heap.size W (W.alloc (.cells #[.string f.b0, .string f.b1, .int .i64 f.e0, .int .i64 f.e1, .int .i64 f.lim] 25)) := ((Below.refl _ _).alloc (Nat.le_refl _) _)
        have xf := (Box.new 25 W [.string f.b0, .string f.b1, .int .i64 f.e0, .int .i64 f.e1, .int .i64 f.lim])
        go_enter Tryz.func28, Tryz.ntmps28
        have xf0 := xf.cell 0 rfl
        have xfz0 := xf.frozen 0
        have xf1 := xf.cell 1 rfl
        have xfz1 := xf.frozen 1
        have xf2 := xf.cell 2 rfl
        have xfz2 := xf.frozen 2
        have xf3 := xf.cell 3 rfl
        have xfz3 := xf.frozen 3
        have xf4 := xf.cell 4 rfl
        have xfz4 := xf.frozen 4
        go_wp2_with fail
        refine (TC.out _).mono ?_
        rintro e V1 ⟨rfl, hk⟩
        clear xf0 xfz0 xf1 xfz1 xf2 xfz2 xf3 xfz3 xf4 xfz4
        replace hB := below_seq hB hk
        replace xf := xf.seq hk
        clear hk
        have xf0 := xf.cell 0 rfl
        have xfz0 := xf.frozen 0
        have xf1 := xf.cell 1 rfl
        have xfz1 := xf.frozen 1
        have xf2 := xf.cell 2 rfl
        have xfz2 := xf.frozen 2
        have xf3 := xf.cell 3 rfl
        have xfz3 := xf.frozen 3
        have xf4 := xf.cell 4 rfl
        have xfz4 := xf.frozen 4
        clear xf0 xfz0 xf1 xfz1 xf2 xfz2 xf3 xfz3 xf4 xfz4
        have xb := Box.new 91 V1 [.bool true, .int .u64 (x : Int), .bool true, .int .u64 (y : Int)]
        have ne_xb_xf : V1.heap.size ≠ W.heap.size := Nat.ne_of_gt xf.lt
        have le_xb : W.heap.size ≤ V1.heap.size := hB.size
        replace xf := xf.alloc (.cells #[.bool true, .int .u64 (x : Int), .bool true, .int .u64 (y : Int)] 91)
        replace hB := hB.alloc hB.size (.cells #[.bool true, .int .u64 (x : Int), .bool true, .int .u64 (y : Int)] 91)
        have xf0 := xf.cell 0 rfl
        have xfz0 := xf.frozen 0
        have xf1 := xf.cell 1 rfl
        have xfz1 := xf.frozen 1
        have xf2 := xf.cell 2 rfl
        have xfz2 := xf.frozen 2
        have xf3 := xf.cell 3 rfl
        have xfz3 := xf.frozen 3
        have xf4 := xf.cell 4 rfl
        have xfz4 := xf.frozen 4
        have xb0 := xb.cell 0 rfl
        have xbz0 := xb.frozen 0
        have xb1 := xb.cell 1 rfl
        have xbz1 := xb.frozen 1
        have xb2 := xb.cell 2 rfl
        have xbz2 := xb.frozen 2
        have xb3 := xb.cell 3 rfl
        have xbz3 := xb.frozen 3
        go_wp2_with fail
        refine (TGr.out _).mono ?_
        rintro e V2 ⟨rfl, hk⟩
        clear xf0 xfz0 xf1 xfz1 xf2 xfz2 xf3 xfz3 xf4 xfz4 xb0 xbz0 xb1 xbz1 xb2 xbz2 xb3 xbz3
        replace hB := below_seq hB hk
        replace xf := xf.seq hk
        replace xb := xb.seq hk
        clear hk
        have xf0 := xf.cell 0 rfl
        have xfz0 := xf.frozen 0
        have xf1 := xf.cell 1 rfl
        have xfz1 := xf.frozen 1
        have xf2 := xf.cell 2 rfl
        have xfz2 := xf.frozen 2
        have xf3 := xf.cell 3 rfl
        have xfz3 := xf.frozen 3
        have xf4 := xf.cell 4 rfl
        have xfz4 := xf.frozen 4
        have xb0 := xb.cell 0 rfl
        have xbz0 := xb.frozen 0
        have xb1 := xb.cell 1 rfl
        have xbz1 := xb.frozen 1
        have xb2 := xb.cell 2 rfl
        have xbz2 := xb.frozen 2
        have xb3 := xb.cell 3 rfl
        have xbz3 := xb.frozen 3
        go_wp2
        go_ret
        exact ⟨rfl, hB⟩
      · subst hxy
        have hK : K = 0 := by rw [HB, if_neg (fun h => Nat.lt_irrefl _ h.2.2), if_pos rfl]
        rw [hK]
        clear HB hK
        have hB : Below W.heap.size W (W.alloc (.cells #[.string f.b0, .string f.b1, .int .i64 f.e0, .int .i64 f.e1, .int .i64 f.lim] 25)) := ((Below.refl _ _).alloc (Nat.le_refl _) _)
        have xf := (Box.new 25 W [.string f.b0, .string f.b1, .int .i64 f.e0, .int .i64 f.e1, .int .i64 f.lim])
        go_enter Tryz.func28, Tryz.ntmps28
        have xf0 := xf.cell 0 rfl
        have xfz0 := xf.frozen 0
        have xf1 := xf.cell 1 rfl
        have xfz1 := xf.frozen 1
        have xf2 := xf.cell 2 rfl
        have xfz2 := xf.frozen 2
        have xf3 := xf.cell 3 rfl
        have xfz3 := xf.frozen 3
        have xf4 := xf.cell 4 rfl
        have xfz4 := xf.frozen 4
        go_wp2_with fail
        refine (TC.out _).mono ?_
        rintro e V1 ⟨rfl, hk⟩
        clear xf0 xfz0 xf1 xfz1 xf2 xfz2 xf3 xfz3 xf4 xfz4
        replace hB := below_seq hB hk
        replace xf := xf.seq hk
        clear hk
        have xf0 := xf.cell 0 rfl
        have xfz0 := xf.frozen 0
        have xf1 := xf.cell 1 rfl
        have xfz1 := xf.frozen 1
        have xf2 := xf.cell 2 rfl
        have xfz2 := xf.frozen 2
        have xf3 := xf.cell 3 rfl
        have xfz3 := xf.frozen 3
        have xf4 := xf.cell 4 rfl
        have xfz4 := xf.frozen 4
        clear xf0 xfz0 xf1 xfz1 xf2 xfz2 xf3 xfz3 xf4 xfz4
        have xb := Box.new 91 V1 [.bool true, .int .u64 (x : Int), .bool true, .int .u64 (x : Int)]
        have ne_xb_xf : V1.heap.size ≠ W.heap.size := Nat.ne_of_gt xf.lt
        have le_xb : W.heap.size ≤ V1.heap.size := hB.size
        replace xf := xf.alloc (.cells #[.bool true, .int .u64 (x : Int), .bool true, .int .u64 (x : Int)] 91)
        replace hB := hB.alloc hB.size (.cells #[.bool true, .int .u64 (x : Int), .bool true, .int .u64 (x : Int)] 91)
        have xf0 := xf.cell 0 rfl
        have xfz0 := xf.frozen 0
        have xf1 := xf.cell 1 rfl
        have xfz1 := xf.frozen 1
        have xf2 := xf.cell 2 rfl
        have xfz2 := xf.frozen 2
        have xf3 := xf.cell 3 rfl
        have xfz3 := xf.frozen 3
        have xf4 := xf.cell 4 rfl
        have xfz4 := xf.frozen 4
        have xb0 := xb.cell 0 rfl
        have xbz0 := xb.frozen 0
        have xb1 := xb.cell 1 rfl
        have xbz1 := xb.frozen 1
        have xb2 := xb.cell 2 rfl
        have xbz2 := xb.frozen 2
        have xb3 := xb.cell 3 rfl
        have xbz3 := xb.frozen 3
        go_wp2
        go_ret
        exact ⟨rfl, hB⟩
      · have hK : K = 0 := by rw [HB, if_neg (fun h => Nat.lt_asymm hxy h.2.2), if_pos rfl]
        rw [hK]
        have TGr := Lib.hid (fun (V : World) => (show Calls Tryz.prog 50 #[.agg #[.bool true, .int .u64 (x : Int), .bool true, .int .u64 (y : Int)]] V fun e W' => e = .returned (.int .i64 0) ∧ Below V.heap.size V W' from by have h := own10Greater true true (x : Int) (y : Int) V; rwa [show grI true (x : Int) (y : Int) = 0 from if_pos ⟨rfl, by omega⟩] at h))
        have n1 : ((x : Int) == (y : Int)) = false := beq_eq_false_iff_ne.2 (by omega)
        have n2 : ¬ (x : Int) = (y : Int) := by omega
        clear HB hK hxy
        have hB : Below W.heap.size W (W.alloc (.cells #[.string f.b0, .string f.b1, .int .i64 f.e0, .int .i64 f.e1, .int .i64 f.lim] 25)) := ((Below.refl _ _).alloc (Nat.le_refl _) _)
        have xf := (Box.new 25 W [.string f.b0, .string f.b1, .int .i64 f.e0, .int .i64 f.e1, .int .i64 f.lim])
        go_enter Tryz.func28, Tryz.ntmps28
        have xf0 := xf.cell 0 rfl
        have xfz0 := xf.frozen 0
        have xf1 := xf.cell 1 rfl
        have xfz1 := xf.frozen 1
        have xf2 := xf.cell 2 rfl
        have xfz2 := xf.frozen 2
        have xf3 := xf.cell 3 rfl
        have xfz3 := xf.frozen 3
        have xf4 := xf.cell 4 rfl
        have xfz4 := xf.frozen 4
        go_wp2_with fail
        refine (TC.out _).mono ?_
        rintro e V1 ⟨rfl, hk⟩
        clear xf0 xfz0 xf1 xfz1 xf2 xfz2 xf3 xfz3 xf4 xfz4
        replace hB := below_seq hB hk
        replace xf := xf.seq hk
        clear hk
        have xf0 := xf.cell 0 rfl
        have xfz0 := xf.frozen 0
        have xf1 := xf.cell 1 rfl
        have xfz1 := xf.frozen 1
        have xf2 := xf.cell 2 rfl
        have xfz2 := xf.frozen 2
        have xf3 := xf.cell 3 rfl
        have xfz3 := xf.frozen 3
        have xf4 := xf.cell 4 rfl
        have xfz4 := xf.frozen 4
        clear xf0 xfz0 xf1 xfz1 xf2 xfz2 xf3 xfz3 xf4 xfz4
        have xb := Box.new 91 V1 [.bool true, .int .u64 (x : Int), .bool true, .int .u64 (y : Int)]
        have ne_xb_xf : V1.heap.size ≠ W.heap.size := Nat.ne_of_gt xf.lt
        have le_xb : W.heap.size ≤ V1.heap.size := hB.size
        replace xf := xf.alloc (.cells #[.bool true, .int .u64 (x : Int), .bool true, .int .u64 (y : Int)] 91)
        replace hB := hB.alloc hB.size (.cells #[.bool true, .int .u64 (x : Int), .bool true, .int .u64 (y : Int)] 91)
        have xf0 := xf.cell 0 rfl
        have xfz0 := xf.frozen 0
        have xf1 := xf.cell 1 rfl
        have xfz1 := xf.frozen 1
        have xf2 := xf.cell 2 rfl
        have xfz2 := xf.frozen 2
        have xf3 := xf.cell 3 rfl
        have xfz3 := xf.frozen 3
        have xf4 := xf.cell 4 rfl
        have xfz4 := xf.frozen 4
        have xb0 := xb.cell 0 rfl
        have xbz0 := xb.frozen 0
        have xb1 := xb.cell 1 rfl
        have xbz1 := xb.frozen 1
        have xb2 := xb.cell 2 rfl
        have xbz2 := xb.frozen 2
        have xb3 := xb.cell 3 rfl
        have xbz3 := xb.frozen 3
        go_wp2_with fail
        refine (TGr.out _).mono ?_
        rintro e V2 ⟨rfl, hk⟩
        clear xf0 xfz0 xf1 xfz1 xf2 xfz2 xf3 xfz3 xf4 xfz4 xb0 xbz0 xb1 xbz1 xb2 xbz2 xb3 xbz3
        replace hB := below_seq hB hk
        replace xf := xf.seq hk
        replace xb := xb.seq hk
        clear hk
        have xf0 := xf.cell 0 rfl
        have xfz0 := xf.frozen 0
        have xf1 := xf.cell 1 rfl
        have xfz1 := xf.frozen 1
        have xf2 := xf.cell 2 rfl
        have xfz2 := xf.frozen 2
        have xf3 := xf.cell 3 rfl
        have xfz3 := xf.frozen 3
        have xf4 := xf.cell 4 rfl
        have xfz4 := xf.frozen 4
        have xb0 := xb.cell 0 rfl
        have xbz0 := xb.frozen 0
        have xb1 := xb.cell 1 rfl
        have xbz1 := xb.frozen 1
        have xb2 := xb.cell 2 rfl
        have xbz2 := xb.frozen 2
        have xb3 := xb.cell 3 rfl
        have xbz3 := xb.frozen 3
        go_wp2
        go_ret
        exact ⟨rfl, hB⟩

set_option maxRecDepth 100000 in
set_option maxHeartbeats 4000000 in
theorem own10Read (f : Fl) (W : World) (hf : f.ok) :
    Calls Tryz.prog 16 #[.agg #[.string f.b0, .string f.b1, .int .i64 f.e0, .int .i64 f.e1, .int .i64 f.lim]] W fun e W' => e = .returned (.tuple #[.agg #[.int .i64 (pickS f).bank, .int .u64 ((pickS f).gen : Int), .int .u64 ((pickS f).seq : Int), .int .u64 ((pickS f).data : Int)], .int .i64 (pickE f)]) ∧ Below W.heap.size W W' := by
  have TB := Lib.hid (fun (V : World) => own10Bank f V hf)
  rcases bankK_cases f with h | h | h
  · have hp := pickS_some (f := f) (by omega)
    have he : pickE f = 0 := pickE_zero.2 (by omega)
    rw [he, hp]
    rw [h] at TB ⊢
    have TG := Lib.hid (fun (V : World) => own08Generation f.b1 V hf.s1)
    have TL := Lib.hid (fun (V : World) => own09Last f.b1 V hf.s1)
    rw [show f.bank 1 = f.b1 from rfl]
    clear hp he h hf
    dsimp only
    generalize genN f.b1 = g at *
    generalize genE f.b1 = ge at *
    generalize lastR f.b1 = r at *
    generalize lastE f.b1 = re at *
    have hB : Below W.heap.size W ((W.alloc (.cells #[.string f.b0, .string f.b1, .int .i64 f.e0, .int .i64 f.e1, .int .i64 f.lim] 25)).alloc (.cells #[.int .i64 0, .int .u64 0, .int .u64 0, .int .u64 0] 51)) := (((Below.refl _ _).alloc (Nat.le_refl _) _).alloc (by simp) _)
    have xf := ((Box.new 25 W [.string f.b0, .string f.b1, .int .i64 f.e0, .int .i64 f.e1, .int .i64 f.lim]).alloc (.cells #[.int .i64 0, .int .u64 0, .int .u64 0, .int .u64 0] 51))
    have xo : Box 51 ((W.alloc (.cells #[.string f.b0, .string f.b1, .int .i64 f.e0, .int .i64 f.e1, .int .i64 f.lim] 25)).alloc (.cells #[.int .i64 0, .int .u64 0, .int .u64 0, .int .u64 0] 51)) (W.heap.size + 1) [.int .i64 0, .int .u64 0, .int .u64 0, .int .u64 0] := by have h := (Box.new 51 (W.alloc (.cells #[.string f.b0, .string f.b1, .int .i64 f.e0, .int .i64 f.e1, .int .i64 f.lim] 25)) [.int .i64 0, .int .u64 0, .int .u64 0, .int .u64 0]); rwa [World.size_alloc] at h
    have le_xo : W.heap.size ≤ W.heap.size + 1 := by omega
    go_enter Tryz.func16, Tryz.ntmps16
    have xf0 := xf.cell 0 rfl
    have xfz0 := xf.frozen 0
    have xf1 := xf.cell 1 rfl
    have xfz1 := xf.frozen 1
    have xf2 := xf.cell 2 rfl
    have xfz2 := xf.frozen 2
    have xf3 := xf.cell 3 rfl
    have xfz3 := xf.frozen 3
    have xf4 := xf.cell 4 rfl
    have xfz4 := xf.frozen 4
    have xo0 := xo.cell 0 rfl
    have xoz0 := xo.frozen 0
    have xo1 := xo.cell 1 rfl
    have xoz1 := xo.frozen 1
    have xo2 := xo.cell 2 rfl
    have xoz2 := xo.frozen 2
    have xo3 := xo.cell 3 rfl
    have xoz3 := xo.frozen 3
    go_wp2_with fail
    refine (TB.out _).mono ?_
    rintro e V1 ⟨rfl, hk⟩
    clear xf0 xfz0 xf1 xfz1 xf2 xfz2 xf3 xfz3 xf4 xfz4 xo0 xoz0 xo1 xoz1 xo2 xoz2 xo3 xoz3
    replace hB := below_seq hB hk
    replace xf := xf.seq hk
    replace xo := xo.seq hk
    clear hk
    have xf0 := xf.cell 0 rfl
    have xfz0 := xf.frozen 0
    have xf1 := xf.cell 1 rfl
    have xfz1 := xf.frozen 1
    have xf2 := xf.cell 2 rfl
    have xfz2 := xf.frozen 2
    have xf3 := xf.cell 3 rfl
    have xfz3 := xf.frozen 3
    have xf4 := xf.cell 4 rfl
    have xfz4 := xf.frozen 4
    have xo0 := xo.cell 0 rfl
    have xoz0 := xo.frozen 0
    have xo1 := xo.cell 1 rfl
    have xoz1 := xo.frozen 1
    have xo2 := xo.cell 2 rfl
    have xoz2 := xo.frozen 2
    have xo3 := xo.cell 3 rfl
    have xoz3 := xo.frozen 3
    go_wp2_with fail
    refine (TG.out _).mono ?_
    rintro e V2 ⟨rfl, hk⟩
    clear xf0 xfz0 xf1 xfz1 xf2 xfz2 xf3 xfz3 xf4 xfz4 xo0 xoz0 xo1 xoz1 xo2 xoz2 xo3 xoz3
    replace hB := below_seq hB hk
    replace xf := xf.seq hk
    replace xo := xo.seq hk
    clear hk
    have xf0 := xf.cell 0 rfl
    have xfz0 := xf.frozen 0
    have xf1 := xf.cell 1 rfl
    have xfz1 := xf.frozen 1
    have xf2 := xf.cell 2 rfl
    have xfz2 := xf.frozen 2
    have xf3 := xf.cell 3 rfl
    have xfz3 := xf.frozen 3
    have xf4 := xf.cell 4 rfl
    have xfz4 := xf.frozen 4
    have xo0 := xo.cell 0 rfl
    have xoz0 := xo.frozen 0
    have xo1 := xo.cell 1 rfl
    have xoz1 := xo.frozen 1
    have xo2 := xo.cell 2 rfl
    have xoz2 := xo.frozen 2
    have xo3 := xo.cell 3 rfl
    have xoz3 := xo.frozen 3
    go_wp2_with fail
    refine (TL.out _).mono ?_
    rintro e V3 ⟨rfl, hk⟩
    clear xf0 xfz0 xf1 xfz1 xf2 xfz2 xf3 xfz3 xf4 xfz4 xo0 xoz0 xo1 xoz1 xo2 xoz2 xo3 xoz3
    replace hB := below_seq hB hk
    replace xf := xf.seq hk
    replace xo := xo.seq hk
    clear hk
    have xr := Box.new 72 V3 [.int .i64 r.kind, .int .u64 (r.seq : Int), .int .u64 (r.data : Int)]
    have ne_xr_xf : V3.heap.size ≠ W.heap.size := Nat.ne_of_gt xf.lt
    have ne_xr_xo : V3.heap.size ≠ W.heap.size + 1 := Nat.ne_of_gt xo.lt
    have le_xr : W.heap.size ≤ V3.heap.size := hB.size
    replace xf := xf.alloc (.cells #[.int .i64 r.kind, .int .u64 (r.seq : Int), .int .u64 (r.data : Int)] 72)
    replace xo := xo.alloc (.cells #[.int .i64 r.kind, .int .u64 (r.seq : Int), .int .u64 (r.data : Int)] 72)
    replace hB := hB.alloc hB.size (.cells #[.int .i64 r.kind, .int .u64 (r.seq : Int), .int .u64 (r.data : Int)] 72)
    have xf0 := xf.cell 0 rfl
    have xfz0 := xf.frozen 0
    have xf1 := xf.cell 1 rfl
    have xfz1 := xf.frozen 1
    have xf2 := xf.cell 2 rfl
    have xfz2 := xf.frozen 2
    have xf3 := xf.cell 3 rfl
    have xfz3 := xf.frozen 3
    have xf4 := xf.cell 4 rfl
    have xfz4 := xf.frozen 4
    have xo0 := xo.cell 0 rfl
    have xoz0 := xo.frozen 0
    have xo1 := xo.cell 1 rfl
    have xoz1 := xo.frozen 1
    have xo2 := xo.cell 2 rfl
    have xoz2 := xo.frozen 2
    have xo3 := xo.cell 3 rfl
    have xoz3 := xo.frozen 3
    have xr0 := xr.cell 0 rfl
    have xrz0 := xr.frozen 0
    have xr1 := xr.cell 1 rfl
    have xrz1 := xr.frozen 1
    have xr2 := xr.cell 2 rfl
    have xrz2 := xr.frozen 2
    go_wp2
    clear xf0 xfz0 xf1 xfz1 xf2 xfz2 xf3 xfz3 xf4 xfz4 xo0 xoz0 xo1 xoz1 xo2 xoz2 xo3 xoz3 xr0 xrz0 xr1 xrz1 xr2 xrz2
    replace xf : Box 25 (((((V3.alloc (.cells #[.int .i64 r.kind, .int .u64 (r.seq : Int), .int .u64 (r.data : Int)] 72)).setCell ⟨W.heap.size + 1, 0, none⟩ (.int .i64 1)).setCell ⟨W.heap.size + 1, 1, none⟩ (.int .u64 (g : Int))).setCell ⟨W.heap.size + 1, 2, none⟩ (.int .u64 (r.seq : Int))).setCell ⟨W.heap.size + 1, 3, none⟩ (.int .u64 (r.data : Int))) (W.heap.size) [.string f.b0, .string f.b1, .int .i64 f.e0, .int .i64 f.e1, .int .i64 f.lim] := ((((xf.other (by omega) 0 (.int .i64 1)).other (by omega) 1 (.int .u64 (g : Int))).other (by omega) 2 (.int .u64 (r.seq : Int))).other (by omega) 3 (.int .u64 (r.data : Int)))
    replace xr : Box 72 (((((V3.alloc (.cells #[.int .i64 r.kind, .int .u64 (r.seq : Int), .int .u64 (r.data : Int)] 72)).setCell ⟨W.heap.size + 1, 0, none⟩ (.int .i64 1)).setCell ⟨W.heap.size + 1, 1, none⟩ (.int .u64 (g : Int))).setCell ⟨W.heap.size + 1, 2, none⟩ (.int .u64 (r.seq : Int))).setCell ⟨W.heap.size + 1, 3, none⟩ (.int .u64 (r.data : Int))) (V3.heap.size) [.int .i64 r.kind, .int .u64 (r.seq : Int), .int .u64 (r.data : Int)] := ((((xr.other (Ne.symm ne_xr_xo) 0 (.int .i64 1)).other (Ne.symm ne_xr_xo) 1 (.int .u64 (g : Int))).other (Ne.symm ne_xr_xo) 2 (.int .u64 (r.seq : Int))).other (Ne.symm ne_xr_xo) 3 (.int .u64 (r.data : Int)))
    replace xo : Box 51 (((((V3.alloc (.cells #[.int .i64 r.kind, .int .u64 (r.seq : Int), .int .u64 (r.data : Int)] 72)).setCell ⟨W.heap.size + 1, 0, none⟩ (.int .i64 1)).setCell ⟨W.heap.size + 1, 1, none⟩ (.int .u64 (g : Int))).setCell ⟨W.heap.size + 1, 2, none⟩ (.int .u64 (r.seq : Int))).setCell ⟨W.heap.size + 1, 3, none⟩ (.int .u64 (r.data : Int))) (W.heap.size + 1) [.int .i64 1, .int .u64 (g : Int), .int .u64 (r.seq : Int), .int .u64 (r.data : Int)] := ((((xo.set 0 (.int .i64 1)).set 1 (.int .u64 (g : Int))).set 2 (.int .u64 (r.seq : Int))).set 3 (.int .u64 (r.data : Int)))
    replace hB : Below W.heap.size W (((((V3.alloc (.cells #[.int .i64 r.kind, .int .u64 (r.seq : Int), .int .u64 (r.data : Int)] 72)).setCell ⟨W.heap.size + 1, 0, none⟩ (.int .i64 1)).setCell ⟨W.heap.size + 1, 1, none⟩ (.int .u64 (g : Int))).setCell ⟨W.heap.size + 1, 2, none⟩ (.int .u64 (r.seq : Int))).setCell ⟨W.heap.size + 1, 3, none⟩ (.int .u64 (r.data : Int))) := ((((hB.setCell le_xo _).setCell le_xo _).setCell le_xo _).setCell le_xo _)
    generalize (((((V3.alloc (.cells #[.int .i64 r.kind, .int .u64 (r.seq : Int), .int .u64 (r.data : Int)] 72)).setCell ⟨W.heap.size + 1, 0, none⟩ (.int .i64 1)).setCell ⟨W.heap.size + 1, 1, none⟩ (.int .u64 (g : Int))).setCell ⟨W.heap.size + 1, 2, none⟩ (.int .u64 (r.seq : Int))).setCell ⟨W.heap.size + 1, 3, none⟩ (.int .u64 (r.data : Int))) = V4 at *
    have xf0 := xf.cell 0 rfl
    have xfz0 := xf.frozen 0
    have xf1 := xf.cell 1 rfl
    have xfz1 := xf.frozen 1
    have xf2 := xf.cell 2 rfl
    have xfz2 := xf.frozen 2
    have xf3 := xf.cell 3 rfl
    have xfz3 := xf.frozen 3
    have xf4 := xf.cell 4 rfl
    have xfz4 := xf.frozen 4
    have xo0 := xo.cell 0 rfl
    have xoz0 := xo.frozen 0
    have xo1 := xo.cell 1 rfl
    have xoz1 := xo.frozen 1
    have xo2 := xo.cell 2 rfl
    have xoz2 := xo.frozen 2
    have xo3 := xo.cell 3 rfl
    have xoz3 := xo.frozen 3
    have xr0 := xr.cell 0 rfl
    have xrz0 := xr.frozen 0
    have xr1 := xr.cell 1 rfl
    have xrz1 := xr.frozen 1
    have xr2 := xr.cell 2 rfl
    have xrz2 := xr.frozen 2
    exact bodyPost_ret (v := .tuple #[.agg #[.int .i64 1, .int .u64 (g : Int), .int .u64 (r.seq : Int), .int .u64 (r.data : Int)], .int .i64 0]) (by simp [results, Tryz.results16, go_sem, xo0, xo1, xo2, xo3]) rfl ⟨rfl, hB⟩
  · have hp := pickS_some (f := f) (by omega)
    have he : pickE f = 0 := pickE_zero.2 (by omega)
    rw [he, hp]
    rw [h] at TB ⊢
    have TG := Lib.hid (fun (V : World) => own08Generation f.b0 V hf.s0)
    have TL := Lib.hid (fun (V : World) => own09Last f.b0 V hf.s0)
    rw [show f.bank 0 = f.b0 from rfl]
    clear hp he h hf
    dsimp only
    generalize genN f.b0 = g at *
    generalize genE f.b0 = ge at *
    generalize lastR f.b0 = r at *
    generalize lastE f.b0 = re at *
    have hB : Below W.heap.size W ((W.alloc (.cells #[.string f.b0, .string f.b1, .int .i64 f.e0, .int .i64 f.e1, .int .i64 f.lim] 25)).alloc (.cells #[.int .i64 0, .int .u64 0, .int .u64 0, .int .u64 0] 51)) := (((Below.refl _ _).alloc (Nat.le_refl _) _).alloc (by simp) _)
    have xf := ((Box.new 25 W [.string f.b0, .string f.b1, .int .i64 f.e0, .int .i64 f.e1, .int .i64 f.lim]).alloc (.cells #[.int .i64 0, .int .u64 0, .int .u64 0, .int .u64 0] 51))
    have xo : Box 51 ((W.alloc (.cells #[.string f.b0, .string f.b1, .int .i64 f.e0, .int .i64 f.e1, .int .i64 f.lim] 25)).alloc (.cells #[.int .i64 0, .int .u64 0, .int .u64 0, .int .u64 0] 51)) (W.heap.size + 1) [.int .i64 0, .int .u64 0, .int .u64 0, .int .u64 0] := by have h := (Box.new 51 (W.alloc (.cells #[.string f.b0, .string f.b1, .int .i64 f.e0, .int .i64 f.e1, .int .i64 f.lim] 25)) [.int .i64 0, .int .u64 0, .int .u64 0, .int .u64 0]); rwa [World.size_alloc] at h
    have le_xo : W.heap.size ≤ W.heap.size + 1 := by omega
    go_enter Tryz.func16, Tryz.ntmps16
    have xf0 := xf.cell 0 rfl
    have xfz0 := xf.frozen 0
    have xf1 := xf.cell 1 rfl
    have xfz1 := xf.frozen 1
    have xf2 := xf.cell 2 rfl
    have xfz2 := xf.frozen 2
    have xf3 := xf.cell 3 rfl
    have xfz3 := xf.frozen 3
    have xf4 := xf.cell 4 rfl
    have xfz4 := xf.frozen 4
    have xo0 := xo.cell 0 rfl
    have xoz0 := xo.frozen 0
    have xo1 := xo.cell 1 rfl
    have xoz1 := xo.frozen 1
    have xo2 := xo.cell 2 rfl
    have xoz2 := xo.frozen 2
    have xo3 := xo.cell 3 rfl
    have xoz3 := xo.frozen 3
    go_wp2_with fail
    refine (TB.out _).mono ?_
    rintro e V1 ⟨rfl, hk⟩
    clear xf0 xfz0 xf1 xfz1 xf2 xfz2 xf3 xfz3 xf4 xfz4 xo0 xoz0 xo1 xoz1 xo2 xoz2 xo3 xoz3
    replace hB := below_seq hB hk
    replace xf := xf.seq hk
    replace xo := xo.seq hk
    clear hk
    have xf0 := xf.cell 0 rfl
    have xfz0 := xf.frozen 0
    have xf1 := xf.cell 1 rfl
    have xfz1 := xf.frozen 1
    have xf2 := xf.cell 2 rfl
    have xfz2 := xf.frozen 2
    have xf3 := xf.cell 3 rfl
    have xfz3 := xf.frozen 3
    have xf4 := xf.cell 4 rfl
    have xfz4 := xf.frozen 4
    have xo0 := xo.cell 0 rfl
    have xoz0 := xo.frozen 0
    have xo1 := xo.cell 1 rfl
    have xoz1 := xo.frozen 1
    have xo2 := xo.cell 2 rfl
    have xoz2 := xo.frozen 2
    have xo3 := xo.cell 3 rfl
    have xoz3 := xo.frozen 3
    go_wp2_with fail
    refine (TG.out _).mono ?_
    rintro e V2 ⟨rfl, hk⟩
    clear xf0 xfz0 xf1 xfz1 xf2 xfz2 xf3 xfz3 xf4 xfz4 xo0 xoz0 xo1 xoz1 xo2 xoz2 xo3 xoz3
    replace hB := below_seq hB hk
    replace xf := xf.seq hk
    replace xo := xo.seq hk
    clear hk
    have xf0 := xf.cell 0 rfl
    have xfz0 := xf.frozen 0
    have xf1 := xf.cell 1 rfl
    have xfz1 := xf.frozen 1
    have xf2 := xf.cell 2 rfl
    have xfz2 := xf.frozen 2
    have xf3 := xf.cell 3 rfl
    have xfz3 := xf.frozen 3
    have xf4 := xf.cell 4 rfl
    have xfz4 := xf.frozen 4
    have xo0 := xo.cell 0 rfl
    have xoz0 := xo.frozen 0
    have xo1 := xo.cell 1 rfl
    have xoz1 := xo.frozen 1
    have xo2 := xo.cell 2 rfl
    have xoz2 := xo.frozen 2
    have xo3 := xo.cell 3 rfl
    have xoz3 := xo.frozen 3
    go_wp2_with fail
    refine (TL.out _).mono ?_
    rintro e V3 ⟨rfl, hk⟩
    clear xf0 xfz0 xf1 xfz1 xf2 xfz2 xf3 xfz3 xf4 xfz4 xo0 xoz0 xo1 xoz1 xo2 xoz2 xo3 xoz3
    replace hB := below_seq hB hk
    replace xf := xf.seq hk
    replace xo := xo.seq hk
    clear hk
    have xr := Box.new 72 V3 [.int .i64 r.kind, .int .u64 (r.seq : Int), .int .u64 (r.data : Int)]
    have ne_xr_xf : V3.heap.size ≠ W.heap.size := Nat.ne_of_gt xf.lt
    have ne_xr_xo : V3.heap.size ≠ W.heap.size + 1 := Nat.ne_of_gt xo.lt
    have le_xr : W.heap.size ≤ V3.heap.size := hB.size
    replace xf := xf.alloc (.cells #[.int .i64 r.kind, .int .u64 (r.seq : Int), .int .u64 (r.data : Int)] 72)
    replace xo := xo.alloc (.cells #[.int .i64 r.kind, .int .u64 (r.seq : Int), .int .u64 (r.data : Int)] 72)
    replace hB := hB.alloc hB.size (.cells #[.int .i64 r.kind, .int .u64 (r.seq : Int), .int .u64 (r.data : Int)] 72)
    have xf0 := xf.cell 0 rfl
    have xfz0 := xf.frozen 0
    have xf1 := xf.cell 1 rfl
    have xfz1 := xf.frozen 1
    have xf2 := xf.cell 2 rfl
    have xfz2 := xf.frozen 2
    have xf3 := xf.cell 3 rfl
    have xfz3 := xf.frozen 3
    have xf4 := xf.cell 4 rfl
    have xfz4 := xf.frozen 4
    have xo0 := xo.cell 0 rfl
    have xoz0 := xo.frozen 0
    have xo1 := xo.cell 1 rfl
    have xoz1 := xo.frozen 1
    have xo2 := xo.cell 2 rfl
    have xoz2 := xo.frozen 2
    have xo3 := xo.cell 3 rfl
    have xoz3 := xo.frozen 3
    have xr0 := xr.cell 0 rfl
    have xrz0 := xr.frozen 0
    have xr1 := xr.cell 1 rfl
    have xrz1 := xr.frozen 1
    have xr2 := xr.cell 2 rfl
    have xrz2 := xr.frozen 2
    go_wp2
    clear xf0 xfz0 xf1 xfz1 xf2 xfz2 xf3 xfz3 xf4 xfz4 xo0 xoz0 xo1 xoz1 xo2 xoz2 xo3 xoz3 xr0 xrz0 xr1 xrz1 xr2 xrz2
    replace xf : Box 25 (((((V3.alloc (.cells #[.int .i64 r.kind, .int .u64 (r.seq : Int), .int .u64 (r.data : Int)] 72)).setCell ⟨W.heap.size + 1, 0, none⟩ (.int .i64 0)).setCell ⟨W.heap.size + 1, 1, none⟩ (.int .u64 (g : Int))).setCell ⟨W.heap.size + 1, 2, none⟩ (.int .u64 (r.seq : Int))).setCell ⟨W.heap.size + 1, 3, none⟩ (.int .u64 (r.data : Int))) (W.heap.size) [.string f.b0, .string f.b1, .int .i64 f.e0, .int .i64 f.e1, .int .i64 f.lim] := ((((xf.other (by omega) 0 (.int .i64 0)).other (by omega) 1 (.int .u64 (g : Int))).other (by omega) 2 (.int .u64 (r.seq : Int))).other (by omega) 3 (.int .u64 (r.data : Int)))
    replace xr : Box 72 (((((V3.alloc (.cells #[.int .i64 r.kind, .int .u64 (r.seq : Int), .int .u64 (r.data : Int)] 72)).setCell ⟨W.heap.size + 1, 0, none⟩ (.int .i64 0)).setCell ⟨W.heap.size + 1, 1, none⟩ (.int .u64 (g : Int))).setCell ⟨W.heap.size + 1, 2, none⟩ (.int .u64 (r.seq : Int))).setCell ⟨W.heap.size + 1, 3, none⟩ (.int .u64 (r.data : Int))) (V3.heap.size) [.int .i64 r.kind, .int .u64 (r.seq : Int), .int .u64 (r.data : Int)] := ((((xr.other (Ne.symm ne_xr_xo) 0 (.int .i64 0)).other (Ne.symm ne_xr_xo) 1 (.int .u64 (g : Int))).other (Ne.symm ne_xr_xo) 2 (.int .u64 (r.seq : Int))).other (Ne.symm ne_xr_xo) 3 (.int .u64 (r.data : Int)))
    replace xo : Box 51 (((((V3.alloc (.cells #[.int .i64 r.kind, .int .u64 (r.seq : Int), .int .u64 (r.data : Int)] 72)).setCell ⟨W.heap.size + 1, 0, none⟩ (.int .i64 0)).setCell ⟨W.heap.size + 1, 1, none⟩ (.int .u64 (g : Int))).setCell ⟨W.heap.size + 1, 2, none⟩ (.int .u64 (r.seq : Int))).setCell ⟨W.heap.size + 1, 3, none⟩ (.int .u64 (r.data : Int))) (W.heap.size + 1) [.int .i64 0, .int .u64 (g : Int), .int .u64 (r.seq : Int), .int .u64 (r.data : Int)] := ((((xo.set 0 (.int .i64 0)).set 1 (.int .u64 (g : Int))).set 2 (.int .u64 (r.seq : Int))).set 3 (.int .u64 (r.data : Int)))
    replace hB : Below W.heap.size W (((((V3.alloc (.cells #[.int .i64 r.kind, .int .u64 (r.seq : Int), .int .u64 (r.data : Int)] 72)).setCell ⟨W.heap.size + 1, 0, none⟩ (.int .i64 0)).setCell ⟨W.heap.size + 1, 1, none⟩ (.int .u64 (g : Int))).setCell ⟨W.heap.size + 1, 2, none⟩ (.int .u64 (r.seq : Int))).setCell ⟨W.heap.size + 1, 3, none⟩ (.int .u64 (r.data : Int))) := ((((hB.setCell le_xo _).setCell le_xo _).setCell le_xo _).setCell le_xo _)
    generalize (((((V3.alloc (.cells #[.int .i64 r.kind, .int .u64 (r.seq : Int), .int .u64 (r.data : Int)] 72)).setCell ⟨W.heap.size + 1, 0, none⟩ (.int .i64 0)).setCell ⟨W.heap.size + 1, 1, none⟩ (.int .u64 (g : Int))).setCell ⟨W.heap.size + 1, 2, none⟩ (.int .u64 (r.seq : Int))).setCell ⟨W.heap.size + 1, 3, none⟩ (.int .u64 (r.data : Int))) = V4 at *
    have xf0 := xf.cell 0 rfl
    have xfz0 := xf.frozen 0
    have xf1 := xf.cell 1 rfl
    have xfz1 := xf.frozen 1
    have xf2 := xf.cell 2 rfl
    have xfz2 := xf.frozen 2
    have xf3 := xf.cell 3 rfl
    have xfz3 := xf.frozen 3
    have xf4 := xf.cell 4 rfl
    have xfz4 := xf.frozen 4
    have xo0 := xo.cell 0 rfl
    have xoz0 := xo.frozen 0
    have xo1 := xo.cell 1 rfl
    have xoz1 := xo.frozen 1
    have xo2 := xo.cell 2 rfl
    have xoz2 := xo.frozen 2
    have xo3 := xo.cell 3 rfl
    have xoz3 := xo.frozen 3
    have xr0 := xr.cell 0 rfl
    have xrz0 := xr.frozen 0
    have xr1 := xr.cell 1 rfl
    have xrz1 := xr.frozen 1
    have xr2 := xr.cell 2 rfl
    have xrz2 := xr.frozen 2
    exact bodyPost_ret (v := .tuple #[.agg #[.int .i64 0, .int .u64 (g : Int), .int .u64 (r.seq : Int), .int .u64 (r.data : Int)], .int .i64 0]) (by simp [results, Tryz.results16, go_sem, xo0, xo1, xo2, xo3]) rfl ⟨rfl, hB⟩
  · have hp := pickS_none (f := f) (by omega)
    have he : pickE f = 10 := if_pos (by omega)
    rw [he, hp]
    rw [h] at TB
    clear hp he h hf
    dsimp only
    have hB : Below W.heap.size W ((W.alloc (.cells #[.string f.b0, .string f.b1, .int .i64 f.e0, .int .i64 f.e1, .int .i64 f.lim] 25)).alloc (.cells #[.int .i64 0, .int .u64 0, .int .u64 0, .int .u64 0] 51)) := (((Below.refl _ _).alloc (Nat.le_refl _) _).alloc (by simp) _)
    have xf := ((Box.new 25 W [.string f.b0, .string f.b1, .int .i64 f.e0, .int .i64 f.e1, .int .i64 f.lim]).alloc (.cells #[.int .i64 0, .int .u64 0, .int .u64 0, .int .u64 0] 51))
    have xo : Box 51 ((W.alloc (.cells #[.string f.b0, .string f.b1, .int .i64 f.e0, .int .i64 f.e1, .int .i64 f.lim] 25)).alloc (.cells #[.int .i64 0, .int .u64 0, .int .u64 0, .int .u64 0] 51)) (W.heap.size + 1) [.int .i64 0, .int .u64 0, .int .u64 0, .int .u64 0] := by have h := (Box.new 51 (W.alloc (.cells #[.string f.b0, .string f.b1, .int .i64 f.e0, .int .i64 f.e1, .int .i64 f.lim] 25)) [.int .i64 0, .int .u64 0, .int .u64 0, .int .u64 0]); rwa [World.size_alloc] at h
    have le_xo : W.heap.size ≤ W.heap.size + 1 := by omega
    go_enter Tryz.func16, Tryz.ntmps16
    have xf0 := xf.cell 0 rfl
    have xfz0 := xf.frozen 0
    have xf1 := xf.cell 1 rfl
    have xfz1 := xf.frozen 1
    have xf2 := xf.cell 2 rfl
    have xfz2 := xf.frozen 2
    have xf3 := xf.cell 3 rfl
    have xfz3 := xf.frozen 3
    have xf4 := xf.cell 4 rfl
    have xfz4 := xf.frozen 4
    have xo0 := xo.cell 0 rfl
    have xoz0 := xo.frozen 0
    have xo1 := xo.cell 1 rfl
    have xoz1 := xo.frozen 1
    have xo2 := xo.cell 2 rfl
    have xoz2 := xo.frozen 2
    have xo3 := xo.cell 3 rfl
    have xoz3 := xo.frozen 3
    go_wp2_with fail
    refine (TB.out _).mono ?_
    rintro e V1 ⟨rfl, hk⟩
    clear xf0 xfz0 xf1 xfz1 xf2 xfz2 xf3 xfz3 xf4 xfz4 xo0 xoz0 xo1 xoz1 xo2 xoz2 xo3 xoz3
    replace hB := below_seq hB hk
    replace xf := xf.seq hk
    replace xo := xo.seq hk
    clear hk
    have xf0 := xf.cell 0 rfl
    have xfz0 := xf.frozen 0
    have xf1 := xf.cell 1 rfl
    have xfz1 := xf.frozen 1
    have xf2 := xf.cell 2 rfl
    have xfz2 := xf.frozen 2
    have xf3 := xf.cell 3 rfl
    have xfz3 := xf.frozen 3
    have xf4 := xf.cell 4 rfl
    have xfz4 := xf.frozen 4
    have xo0 := xo.cell 0 rfl
    have xoz0 := xo.frozen 0
    have xo1 := xo.cell 1 rfl
    have xoz1 := xo.frozen 1
    have xo2 := xo.cell 2 rfl
    have xoz2 := xo.frozen 2
    have xo3 := xo.cell 3 rfl
    have xoz3 := xo.frozen 3
    go_wp2
    clear xf0 xfz0 xf1 xfz1 xf2 xfz2 xf3 xfz3 xf4 xfz4 xo0 xoz0 xo1 xoz1 xo2 xoz2 xo3 xoz3
    replace xf : Box 25 ((((V1.setCell ⟨W.heap.size + 1, 0, none⟩ (.int .i64 0)).setCell ⟨W.heap.size + 1, 1, none⟩ (.int .u64 0)).setCell ⟨W.heap.size + 1, 2, none⟩ (.int .u64 0)).setCell ⟨W.heap.size + 1, 3, none⟩ (.int .u64 0)) (W.heap.size) [.string f.b0, .string f.b1, .int .i64 f.e0, .int .i64 f.e1, .int .i64 f.lim] := ((((xf.other (by omega) 0 (.int .i64 0)).other (by omega) 1 (.int .u64 0)).other (by omega) 2 (.int .u64 0)).other (by omega) 3 (.int .u64 0))
    replace xo : Box 51 ((((V1.setCell ⟨W.heap.size + 1, 0, none⟩ (.int .i64 0)).setCell ⟨W.heap.size + 1, 1, none⟩ (.int .u64 0)).setCell ⟨W.heap.size + 1, 2, none⟩ (.int .u64 0)).setCell ⟨W.heap.size + 1, 3, none⟩ (.int .u64 0)) (W.heap.size + 1) [.int .i64 0, .int .u64 0, .int .u64 0, .int .u64 0] := ((((xo.set 0 (.int .i64 0)).set 1 (.int .u64 0)).set 2 (.int .u64 0)).set 3 (.int .u64 0))
    replace hB : Below W.heap.size W ((((V1.setCell ⟨W.heap.size + 1, 0, none⟩ (.int .i64 0)).setCell ⟨W.heap.size + 1, 1, none⟩ (.int .u64 0)).setCell ⟨W.heap.size + 1, 2, none⟩ (.int .u64 0)).setCell ⟨W.heap.size + 1, 3, none⟩ (.int .u64 0)) := ((((hB.setCell le_xo _).setCell le_xo _).setCell le_xo _).setCell le_xo _)
    generalize ((((V1.setCell ⟨W.heap.size + 1, 0, none⟩ (.int .i64 0)).setCell ⟨W.heap.size + 1, 1, none⟩ (.int .u64 0)).setCell ⟨W.heap.size + 1, 2, none⟩ (.int .u64 0)).setCell ⟨W.heap.size + 1, 3, none⟩ (.int .u64 0)) = V2 at *
    have xf0 := xf.cell 0 rfl
    have xfz0 := xf.frozen 0
    have xf1 := xf.cell 1 rfl
    have xfz1 := xf.frozen 1
    have xf2 := xf.cell 2 rfl
    have xfz2 := xf.frozen 2
    have xf3 := xf.cell 3 rfl
    have xfz3 := xf.frozen 3
    have xf4 := xf.cell 4 rfl
    have xfz4 := xf.frozen 4
    have xo0 := xo.cell 0 rfl
    have xoz0 := xo.frozen 0
    have xo1 := xo.cell 1 rfl
    have xoz1 := xo.frozen 1
    have xo2 := xo.cell 2 rfl
    have xoz2 := xo.frozen 2
    have xo3 := xo.cell 3 rfl
    have xoz3 := xo.frozen 3
    exact bodyPost_ret (v := .tuple #[.agg #[.int .i64 0, .int .u64 0, .int .u64 0, .int .u64 0], .int .i64 10]) (by simp [results, Tryz.results16, go_sem, xo0, xo1, xo2, xo3]) rfl ⟨rfl, hB⟩

set_option maxRecDepth 100000 in
set_option maxHeartbeats 4000000 in
theorem own10Other (n : Int) (W : World) :
    Calls Tryz.prog 32 #[.int .i64 n] W fun e W' => e = .returned (.int .i64 (otherN n)) ∧ Below W.heap.size W W' := by
  have hB : Below W.heap.size W W := Below.refl _ _
  by_cases h : n = 0
  · have H := Lib.hid (show otherN n = 1 from if_pos h)
    have b1 : (n == 0) = true := beq_iff_eq.2 h
    clear h
    go_enter Tryz.func32, Tryz.ntmps32
    go_wp2
    go_ret
    exact ⟨ret_int H.out.symm, hB⟩
  · have H := Lib.hid (show otherN n = 0 from if_neg h)
    have b1 : (n == 0) = false := beq_eq_false_iff_ne.2 h
    clear h
    go_enter Tryz.func32, Tryz.ntmps32
    go_wp2
    go_ret
    exact ⟨ret_int H.out.symm, hB⟩

set_option maxRecDepth 100000 in
set_option maxHeartbeats 4000000 in
theorem own10Even (f : Fl) (W : World) (hf : f.ok) :
    Calls Tryz.prog 15 #[.agg #[.string f.b0, .string f.b1, .int .i64 f.e0, .int .i64 f.e1, .int .i64 f.lim]] W fun e W' => e = .returned (.bool (evenF f)) ∧ Below W.heap.size W W' := by
  have T0 := Lib.hid (fun (V : World) => lay05Slots (f.b0.size : Int) V)
  have T1 := Lib.hid (fun (V : World) => lay05Slots (f.b1.size : Int) V)
  have HE := Lib.hid (show evenF f = (decide (slotsF f.b0.size ≠ 0) && decide (f.b0.size = f.b1.size)) from rfl)
  have HS : slotsF (f.b0.size : Int) ≠ 0 → slotsF (f.b1.size : Int) = slotsF (f.b0.size : Int) → f.b0.size = f.b1.size := fun h e => by
    have h0 := slots_size h
    have h1 := slots_size (z := (f.b1.size : Int)) (by rw [e]; exact h)
    omega
  have HT : f.b0.size = f.b1.size → slotsF (f.b1.size : Int) = slotsF (f.b0.size : Int) := fun e => by rw [e]
  have hle := slots_le (f.b0.size : Int)
  generalize evenF f = B at *
  generalize slotsF (f.b0.size : Int) = n at *
  generalize slotsF (f.b1.size : Int) = m at *
  by_cases h1 : n = 0
  · have hB2 := HE.out
    rw [h1] at hB2
    have hB3 : B = false := by rw [hB2]; simp
    subst hB3
    subst h1
    clear hB2 HE HS HT hle
    have hB : Below W.heap.size W (W.alloc (.cells #[.string f.b0, .string f.b1, .int .i64 f.e0, .int .i64 f.e1, .int .i64 f.lim] 25)) := ((Below.refl _ _).alloc (Nat.le_refl _) _)
    have xf := (Box.new 25 W [.string f.b0, .string f.b1, .int .i64 f.e0, .int .i64 f.e1, .int .i64 f.lim])
    go_enter Tryz.func15, Tryz.ntmps15
    have xf0 := xf.cell 0 rfl
    have xfz0 := xf.frozen 0
    have xf1 := xf.cell 1 rfl
    have xfz1 := xf.frozen 1
    have xf2 := xf.cell 2 rfl
    have xfz2 := xf.frozen 2
    have xf3 := xf.cell 3 rfl
    have xfz3 := xf.frozen 3
    have xf4 := xf.cell 4 rfl
    have xfz4 := xf.frozen 4
    go_wp2_with fail
    refine (T0.out _).mono ?_
    rintro e w' ⟨rfl, hw⟩
    rw [hw]
    clear hw w'
    go_wp2
    go_ret
    exact ⟨rfl, hB⟩
  · have m1 : n > 0 := by omega
    by_cases h2 : m = n
    · have hB3 : B = true := by rw [HE.out]; simp [h1, HS h1 h2]
      subst hB3
      subst h2
      clear HE hle HS HT h1
      have hB : Below W.heap.size W (W.alloc (.cells #[.string f.b0, .string f.b1, .int .i64 f.e0, .int .i64 f.e1, .int .i64 f.lim] 25)) := ((Below.refl _ _).alloc (Nat.le_refl _) _)
      have xf := (Box.new 25 W [.string f.b0, .string f.b1, .int .i64 f.e0, .int .i64 f.e1, .int .i64 f.lim])
      go_enter Tryz.func15, Tryz.ntmps15
      have xf0 := xf.cell 0 rfl
      have xfz0 := xf.frozen 0
      have xf1 := xf.cell 1 rfl
      have xfz1 := xf.frozen 1
      have xf2 := xf.cell 2 rfl
      have xfz2 := xf.frozen 2
      have xf3 := xf.cell 3 rfl
      have xfz3 := xf.frozen 3
      have xf4 := xf.cell 4 rfl
      have xfz4 := xf.frozen 4
      go_wp2_with fail
      refine (T0.out _).mono ?_
      rintro e w' ⟨rfl, hw⟩
      rw [hw]
      clear hw w'
      go_wp2_with fail
      refine (T1.out _).mono ?_
      rintro e w' ⟨rfl, hw⟩
      rw [hw]
      clear hw w'
      go_wp2
      go_ret
      exact ⟨rfl, hB⟩
    · have hB3 : B = false := by rw [HE.out]; simp [h1]; exact fun e => h2 (HT e)
      subst hB3
      have m2 : (m == n) = false := beq_eq_false_iff_ne.2 h2
      clear HE hle HS HT h1 h2
      have hB : Below W.heap.size W (W.alloc (.cells #[.string f.b0, .string f.b1, .int .i64 f.e0, .int .i64 f.e1, .int .i64 f.lim] 25)) := ((Below.refl _ _).alloc (Nat.le_refl _) _)
      have xf := (Box.new 25 W [.string f.b0, .string f.b1, .int .i64 f.e0, .int .i64 f.e1, .int .i64 f.lim])
      go_enter Tryz.func15, Tryz.ntmps15
      have xf0 := xf.cell 0 rfl
      have xfz0 := xf.frozen 0
      have xf1 := xf.cell 1 rfl
      have xfz1 := xf.frozen 1
      have xf2 := xf.cell 2 rfl
      have xfz2 := xf.frozen 2
      have xf3 := xf.cell 3 rfl
      have xfz3 := xf.frozen 3
      have xf4 := xf.cell 4 rfl
      have xfz4 := xf.frozen 4
      go_wp2_with fail
      refine (T0.out _).mono ?_
      rintro e w' ⟨rfl, hw⟩
      rw [hw]
      clear hw w'
      go_wp2_with fail
      refine (T1.out _).mono ?_
      rintro e w' ⟨rfl, hw⟩
      rw [hw]
      clear hw w'
      go_wp2
      go_ret
      exact ⟨rfl, hB⟩

end Go.Proofs.YtiacdcnpkfpjaaaGreat

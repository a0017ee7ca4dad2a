/- The program's own functions of layer 4: contracts only. -/
import Derived.Test.YtiacdcnpkfpjaaaGreatRows
import Derived.Test.YtiacdcnpkfpjaaaGreatPowerFit
import Derived.Test.YtiacdcnpkfpjaaaGreatPowerOps
import Derived.Test.YtiacdcnpkfpjaaaGreatClear
import Derived.Test.YtiacdcnpkfpjaaaGreatBox
import Derived.Test.YtiacdcnpkfpjaaaGreatInts
import Derived.WalkKit
import Derived.ProofKit
import Derived.OwnWalk
import Derived.Lib.Hide
import Derived.BigQuiet
import Derived.Deep.QuietTactic
import Derived.Deep.RegionHeld3
import Derived.IntWalk
import Derived.WalkLawsBesides
namespace Go.Proofs.YtiacdcnpkfpjaaaGreat
open Go.RowKit
set_option linter.unusedVariables false
set_option linter.unusedSimpArgs false

set_option maxRecDepth 100000 in
set_option maxHeartbeats 4000000 in
theorem pwDo1 (f : Fl) (b q : Int) (d : ByteArray) (W : World) (hf : f.fit) (hd : d.size ≤ maxLen) (hq : q ≤ 9223372036854775807) :
    Calls Tryz.prog 25 #[.agg #[.string f.b0, .string f.b1, .int .i64 f.e0, .int .i64 f.e1, .int .i64 f.lim], .agg #[.int .i64 1, .int .i64 b, .int .i64 q, .string d]] W fun e W' => e = .returned (.tuple #[.agg #[.string (progF f b q d).b0, .string (progF f b q d).b1, .int .i64 (progF f b q d).e0, .int .i64 (progF f b q d).e1, .int .i64 (progF f b q d).lim], .int .i64 (progErr f b q d)]) ∧ Below W.heap.size W W' := by
  have T := Lib.hid (fun (W : World) => flProgram f b q d W hf hd (by omega))
  generalize progF f b q d = g at *
  generalize progErr f b q d = E at *
  have hB : Below W.heap.size W (((W.alloc (.cells #[.string f.b0, .string f.b1, .int .i64 f.e0, .int .i64 f.e1, .int .i64 f.lim] 25)).alloc (.cells #[.int .i64 1, .int .i64 b, .int .i64 q, .string d] 46)).alloc (.cells #[.string ⟨#[]⟩, .string ⟨#[]⟩, .int .i64 0, .int .i64 0, .int .i64 0] 25)) := ((((Below.refl _ _).alloc (Nat.le_refl _) _).alloc (by simp) _).alloc (by simp; omega) _)
  have xf := (((Box.new 25 W [.string f.b0, .string f.b1, .int .i64 f.e0, .int .i64 f.e1, .int .i64 f.lim]).alloc (.cells #[.int .i64 1, .int .i64 b, .int .i64 q, .string d] 46)).alloc (.cells #[.string ⟨#[]⟩, .string ⟨#[]⟩, .int .i64 0, .int .i64 0, .int .i64 0] 25))
  have xo : Box 46 (((W.alloc (.cells #[.string f.b0, .string f.b1, .int .i64 f.e0, .int .i64 f.e1, .int .i64 f.lim] 25)).alloc (.cells #[.int .i64 1, .int .i64 b, .int .i64 q, .string d] 46)).alloc (.cells #[.string ⟨#[]⟩, .string ⟨#[]⟩, .int .i64 0, .int .i64 0, .int .i64 0] 25)) (W.heap.size + 1) [.int .i64 1, .int .i64 b, .int .i64 q, .string d] := by have h := ((Box.new 46 (W.alloc (.cells #[.string f.b0, .string f.b1, .int .i64 f.e0, .int .i64 f.e1, .int .i64 f.lim] 25)) [.int .i64 1, .int .i64 b, .int .i64 q, .string d]).alloc (.cells #[.string ⟨#[]⟩, .string ⟨#[]⟩, .int .i64 0, .int .i64 0, .int .i64 0] 25)); rwa [World.size_alloc] at h
  have le_xo : W.heap.size ≤ W.heap.size + 1 := by omega
  have xr : Box 25 (((W.alloc (.cells #[.string f.b0, .string f.b1, .int .i64 f.e0, .int .i64 f.e1, .int .i64 f.lim] 25)).alloc (.cells #[.int .i64 1, .int .i64 b, .int .i64 q, .string d] 46)).alloc (.cells #[.string ⟨#[]⟩, .string ⟨#[]⟩, .int .i64 0, .int .i64 0, .int .i64 0] 25)) (W.heap.size + 1 + 1) [.string ⟨#[]⟩, .string ⟨#[]⟩, .int .i64 0, .int .i64 0, .int .i64 0] := by have h := (Box.new 25 ((W.alloc (.cells #[.string f.b0, .string f.b1, .int .i64 f.e0, .int .i64 f.e1, .int .i64 f.lim] 25)).alloc (.cells #[.int .i64 1, .int .i64 b, .int .i64 q, .string d] 46)) [.string ⟨#[]⟩, .string ⟨#[]⟩, .int .i64 0, .int .i64 0, .int .i64 0]); rwa [World.size_alloc, World.size_alloc] at h
  have le_xr : W.heap.size ≤ W.heap.size + 1 + 1 := by omega
  go_enter Tryz.func25, Tryz.ntmps25
  go_wp2_with fail
  refine (T.out _).mono ?_
  rintro e V1 ⟨rfl, hk⟩
  replace hB := below_seq hB hk
  replace xf := xf.seq hk
  replace xo := xo.seq hk
  replace xr := xr.seq hk
  clear hk
  have xf0 := xf.cell 0 rfl
  have xfz0 := xf.frozen 0
  have xf1 := xf.cell 1 rfl
  have xfz1 := xf.frozen 1
  have xf2 := xf.cell 2 rfl
  have xfz2 := xf.frozen 2
  have xf3 := xf.cell 3 rfl
  have xfz3 := xf.frozen 3
  have xf4 := xf.cell 4 rfl
  have xfz4 := xf.frozen 4
  have xo0 := xo.cell 0 rfl
  have xoz0 := xo.frozen 0
  have xo1 := xo.cell 1 rfl
  have xoz1 := xo.frozen 1
  have xo2 := xo.cell 2 rfl
  have xoz2 := xo.frozen 2
  have xo3 := xo.cell 3 rfl
  have xoz3 := xo.frozen 3
  have xr0 := xr.cell 0 rfl
  have xrz0 := xr.frozen 0
  have xr1 := xr.cell 1 rfl
  have xrz1 := xr.frozen 1
  have xr2 := xr.cell 2 rfl
  have xrz2 := xr.frozen 2
  have xr3 := xr.cell 3 rfl
  have xrz3 := xr.frozen 3
  have xr4 := xr.cell 4 rfl
  have xrz4 := xr.frozen 4
  go_wp2
  clear xf0 xfz0 xf1 xfz1 xf2 xfz2 xf3 xfz3 xf4 xfz4 xo0 xoz0 xo1 xoz1 xo2 xoz2 xo3 xoz3 xr0 xrz0 xr1 xrz1 xr2 xrz2 xr3 xrz3 xr4 xrz4
  replace xf : Box 25 (((((V1.setCell ⟨W.heap.size + 1 + 1, 0, none⟩ (.string g.b0)).setCell ⟨W.heap.size + 1 + 1, 1, none⟩ (.string g.b1)).setCell ⟨W.heap.size + 1 + 1, 2, none⟩ (.int .i64 g.e0)).setCell ⟨W.heap.size + 1 + 1, 3, none⟩ (.int .i64 g.e1)).setCell ⟨W.heap.size + 1 + 1, 4, none⟩ (.int .i64 g.lim)) (W.heap.size) [.string f.b0, .string f.b1, .int .i64 f.e0, .int .i64 f.e1, .int .i64 f.lim] := (((((xf.other (by omega) 0 (.string g.b0)).other (by omega) 1 (.string g.b1)).other (by omega) 2 (.int .i64 g.e0)).other (by omega) 3 (.int .i64 g.e1)).other (by omega) 4 (.int .i64 g.lim))
  replace xo : Box 46 (((((V1.setCell ⟨W.heap.size + 1 + 1, 0, none⟩ (.string g.b0)).setCell ⟨W.heap.size + 1 + 1, 1, none⟩ (.string g.b1)).setCell ⟨W.heap.size + 1 + 1, 2, none⟩ (.int .i64 g.e0)).setCell ⟨W.heap.size + 1 + 1, 3, none⟩ (.int .i64 g.e1)).setCell ⟨W.heap.size + 1 + 1, 4, none⟩ (.int .i64 g.lim)) (W.heap.size + 1) [.int .i64 1, .int .i64 b, .int .i64 q, .string d] := (((((xo.other (by omega) 0 (.string g.b0)).other (by omega) 1 (.string g.b1)).other (by omega) 2 (.int .i64 g.e0)).other (by omega) 3 (.int .i64 g.e1)).other (by omega) 4 (.int .i64 g.lim))
  replace xr : Box 25 (((((V1.setCell ⟨W.heap.size + 1 + 1, 0, none⟩ (.string g.b0)).setCell ⟨W.heap.size + 1 + 1, 1, none⟩ (.string g.b1)).setCell ⟨W.heap.size + 1 + 1, 2, none⟩ (.int .i64 g.e0)).setCell ⟨W.heap.size + 1 + 1, 3, none⟩ (.int .i64 g.e1)).setCell ⟨W.heap.size + 1 + 1, 4, none⟩ (.int .i64 g.lim)) (W.heap.size + 1 + 1) [.string g.b0, .string g.b1, .int .i64 g.e0, .int .i64 g.e1, .int .i64 g.lim] := (((((xr.set 0 (.string g.b0)).set 1 (.string g.b1)).set 2 (.int .i64 g.e0)).set 3 (.int .i64 g.e1)).set 4 (.int .i64 g.lim))
  replace hB : Below W.heap.size W (((((V1.setCell ⟨W.heap.size + 1 + 1, 0, none⟩ (.string g.b0)).setCell ⟨W.heap.size + 1 + 1, 1, none⟩ (.string g.b1)).setCell ⟨W.heap.size + 1 + 1, 2, none⟩ (.int .i64 g.e0)).setCell ⟨W.heap.size + 1 + 1, 3, none⟩ (.int .i64 g.e1)).setCell ⟨W.heap.size + 1 + 1, 4, none⟩ (.int .i64 g.lim)) := (((((hB.setCell le_xr _).setCell le_xr _).setCell le_xr _).setCell le_xr _).setCell le_xr _)
  generalize (((((V1.setCell ⟨W.heap.size + 1 + 1, 0, none⟩ (.string g.b0)).setCell ⟨W.heap.size + 1 + 1, 1, none⟩ (.string g.b1)).setCell ⟨W.heap.size + 1 + 1, 2, none⟩ (.int .i64 g.e0)).setCell ⟨W.heap.size + 1 + 1, 3, none⟩ (.int .i64 g.e1)).setCell ⟨W.heap.size + 1 + 1, 4, none⟩ (.int .i64 g.lim)) = V2 at *
  have xf0 := xf.cell 0 rfl
  have xfz0 := xf.frozen 0
  have xf1 := xf.cell 1 rfl
  have xfz1 := xf.frozen 1
  have xf2 := xf.cell 2 rfl
  have xfz2 := xf.frozen 2
  have xf3 := xf.cell 3 rfl
  have xfz3 := xf.frozen 3
  have xf4 := xf.cell 4 rfl
  have xfz4 := xf.frozen 4
  have xo0 := xo.cell 0 rfl
  have xoz0 := xo.frozen 0
  have xo1 := xo.cell 1 rfl
  have xoz1 := xo.frozen 1
  have xo2 := xo.cell 2 rfl
  have xoz2 := xo.frozen 2
  have xo3 := xo.cell 3 rfl
  have xoz3 := xo.frozen 3
  have xr0 := xr.cell 0 rfl
  have xrz0 := xr.frozen 0
  have xr1 := xr.cell 1 rfl
  have xrz1 := xr.frozen 1
  have xr2 := xr.cell 2 rfl
  have xrz2 := xr.frozen 2
  have xr3 := xr.cell 3 rfl
  have xrz3 := xr.frozen 3
  have xr4 := xr.cell 4 rfl
  have xrz4 := xr.frozen 4
  exact bodyPost_ret (v := .tuple #[.agg #[.string g.b0, .string g.b1, .int .i64 g.e0, .int .i64 g.e1, .int .i64 g.lim], .int .i64 E]) (by simp [results, Tryz.results25, go_sem, xr0, xr1, xr2, xr3, xr4]) rfl ⟨rfl, hB⟩

set_option maxRecDepth 100000 in
set_option maxHeartbeats 4000000 in
theorem pwDo2 (f : Fl) (b q : Int) (d : ByteArray) (W : World) (hf : f.fit) (hd : d.size ≤ maxLen) (hq : q ≤ 9223372036854775807) :
    Calls Tryz.prog 25 #[.agg #[.string f.b0, .string f.b1, .int .i64 f.e0, .int .i64 f.e1, .int .i64 f.lim], .agg #[.int .i64 2, .int .i64 b, .int .i64 q, .string d]] W fun e W' => e = .returned (.tuple #[.agg #[.string (eraseF f b).b0, .string (eraseF f b).b1, .int .i64 (eraseF f b).e0, .int .i64 (eraseF f b).e1, .int .i64 (eraseF f b).lim], .int .i64 (eraseErr f b)]) ∧ Below W.heap.size W W' := by
  have T := Lib.hid (fun (W : World) => flErase f b W hf)
  generalize eraseF f b = g at *
  generalize eraseErr f b = E at *
  have hB : Below W.heap.size W (((W.alloc (.cells #[.string f.b0, .string f.b1, .int .i64 f.e0, .int .i64 f.e1, .int .i64 f.lim] 25)).alloc (.cells #[.int .i64 2, .int .i64 b, .int .i64 q, .string d] 46)).alloc (.cells #[.string ⟨#[]⟩, .string ⟨#[]⟩, .int .i64 0, .int .i64 0, .int .i64 0] 25)) := ((((Below.refl _ _).alloc (Nat.le_refl _) _).alloc (by simp) _).alloc (by simp; omega) _)
  have xf := (((Box.new 25 W [.string f.b0, .string f.b1, .int .i64 f.e0, .int .i64 f.e1, .int .i64 f.lim]).alloc (.cells #[.int .i64 2, .int .i64 b, .int .i64 q, .string d] 46)).alloc (.cells #[.string ⟨#[]⟩, .string ⟨#[]⟩, .int .i64 0, .int .i64 0, .int .i64 0] 25))
  have xo : Box 46 (((W.alloc (.cells #[.string f.b0, .string f.b1, .int .i64 f.e0, .int .i64 f.e1, .int .i64 f.lim] 25)).alloc (.cells #[.int .i64 2, .int .i64 b, .int .i64 q, .string d] 46)).alloc (.cells #[.string ⟨#[]⟩, .string ⟨#[]⟩, .int .i64 0, .int .i64 0, .int .i64 0] 25)) (W.heap.size + 1) [.int .i64 2, .int .i64 b, .int .i64 q, .string d] := by have h := ((Box.new 46 (W.alloc (.cells #[.string f.b0, .string f.b1, .int .i64 f.e0, .int .i64 f.e1, .int .i64 f.lim] 25)) [.int .i64 2, .int .i64 b, .int .i64 q, .string d]).alloc (.cells #[.string ⟨#[]⟩, .string ⟨#[]⟩, .int .i64 0, .int .i64 0, .int .i64 0] 25)); rwa [World.size_alloc] at h
  have le_xo : W.heap.size ≤ W.heap.size + 1 := by omega
  have xr : Box 25 (((W.alloc (.cells #[.string f.b0, .string f.b1, .int .i64 f.e0, .int .i64 f.e1, .int .i64 f.lim] 25)).alloc (.cells #[.int .i64 2, .int .i64 b, .int .i64 q, .string d] 46)).alloc (.cells #[.string ⟨#[]⟩, .string ⟨#[]⟩, .int .i64 0, .int .i64 0, .int .i64 0] 25)) (W.heap.size + 1 + 1) [.string ⟨#[]⟩, .string ⟨#[]⟩, .int .i64 0, .int .i64 0, .int .i64 0] := by have h := (Box.new 25 ((W.alloc (.cells #[.string f.b0, .string f.b1, .int .i64 f.e0, .int .i64 f.e1, .int .i64 f.lim] 25)).alloc (.cells #[.int .i64 2, .int .i64 b, .int .i64 q, .string d] 46)) [.string ⟨#[]⟩, .string ⟨#[]⟩, .int .i64 0, .int .i64 0, .int .i64 0]); rwa [World.size_alloc, World.size_alloc] at h
  have le_xr : W.heap.size ≤ W.heap.size + 1 + 1 := by omega
  go_enter Tryz.func25, Tryz.ntmps25
  go_wp2_with fail
  refine (T.out _).mono ?_
  rintro e V1 ⟨rfl, hk⟩
  replace hB := below_seq hB hk
  replace xf := xf.seq hk
  replace xo := xo.seq hk
  replace xr := xr.seq hk
  clear hk
  have xf0 := xf.cell 0 rfl
  have xfz0 := xf.frozen 0
  have xf1 := xf.cell 1 rfl
  have xfz1 := xf.frozen 1
  have xf2 := xf.cell 2 rfl
  have xfz2 := xf.frozen 2
  have xf3 := xf.cell 3 rfl
  have xfz3 := xf.frozen 3
  have xf4 := xf.cell 4 rfl
  have xfz4 := xf.frozen 4
  have xo0 := xo.cell 0 rfl
  have xoz0 := xo.frozen 0
  have xo1 := xo.cell 1 rfl
  have xoz1 := xo.frozen 1
  have xo2 := xo.cell 2 rfl
  have xoz2 := xo.frozen 2
  have xo3 := xo.cell 3 rfl
  have xoz3 := xo.frozen 3
  have xr0 := xr.cell 0 rfl
  have xrz0 := xr.frozen 0
  have xr1 := xr.cell 1 rfl
  have xrz1 := xr.frozen 1
  have xr2 := xr.cell 2 rfl
  have xrz2 := xr.frozen 2
  have xr3 := xr.cell 3 rfl
  have xrz3 := xr.frozen 3
  have xr4 := xr.cell 4 rfl
  have xrz4 := xr.frozen 4
  go_wp2
  clear xf0 xfz0 xf1 xfz1 xf2 xfz2 xf3 xfz3 xf4 xfz4 xo0 xoz0 xo1 xoz1 xo2 xoz2 xo3 xoz3 xr0 xrz0 xr1 xrz1 xr2 xrz2 xr3 xrz3 xr4 xrz4
  replace xf : Box 25 (((((V1.setCell ⟨W.heap.size + 1 + 1, 0, none⟩ (.string g.b0)).setCell ⟨W.heap.size + 1 + 1, 1, none⟩ (.string g.b1)).setCell ⟨W.heap.size + 1 + 1, 2, none⟩ (.int .i64 g.e0)).setCell ⟨W.heap.size + 1 + 1, 3, none⟩ (.int .i64 g.e1)).setCell ⟨W.heap.size + 1 + 1, 4, none⟩ (.int .i64 g.lim)) (W.heap.size) [.string f.b0, .string f.b1, .int .i64 f.e0, .int .i64 f.e1, .int .i64 f.lim] := (((((xf.other (by omega) 0 (.string g.b0)).other (by omega) 1 (.string g.b1)).other (by omega) 2 (.int .i64 g.e0)).other (by omega) 3 (.int .i64 g.e1)).other (by omega) 4 (.int .i64 g.lim))
  replace xo : Box 46 (((((V1.setCell ⟨W.heap.size + 1 + 1, 0, none⟩ (.string g.b0)).setCell ⟨W.heap.size + 1 + 1, 1, none⟩ (.string g.b1)).setCell ⟨W.heap.size + 1 + 1, 2, none⟩ (.int .i64 g.e0)).setCell ⟨W.heap.size + 1 + 1, 3, none⟩ (.int .i64 g.e1)).setCell ⟨W.heap.size + 1 + 1, 4, none⟩ (.int .i64 g.lim)) (W.heap.size + 1) [.int .i64 2, .int .i64 b, .int .i64 q, .string d] := (((((xo.other (by omega) 0 (.string g.b0)).other (by omega) 1 (.string g.b1)).other (by omega) 2 (.int .i64 g.e0)).other (by omega) 3 (.int .i64 g.e1)).other (by omega) 4 (.int .i64 g.lim))
  replace xr : Box 25 (((((V1.setCell ⟨W.heap.size + 1 + 1, 0, none⟩ (.string g.b0)).setCell ⟨W.heap.size + 1 + 1, 1, none⟩ (.string g.b1)).setCell ⟨W.heap.size + 1 + 1, 2, none⟩ (.int .i64 g.e0)).setCell ⟨W.heap.size + 1 + 1, 3, none⟩ (.int .i64 g.e1)).setCell ⟨W.heap.size + 1 + 1, 4, none⟩ (.int .i64 g.lim)) (W.heap.size + 1 + 1) [.string g.b0, .string g.b1, .int .i64 g.e0, .int .i64 g.e1, .int .i64 g.lim] := (((((xr.set 0 (.string g.b0)).set 1 (.string g.b1)).set 2 (.int .i64 g.e0)).set 3 (.int .i64 g.e1)).set 4 (.int .i64 g.lim))
  replace hB : Below W.heap.size W (((((V1.setCell ⟨W.heap.size + 1 + 1, 0, none⟩ (.string g.b0)).setCell ⟨W.heap.size + 1 + 1, 1, none⟩ (.string g.b1)).setCell ⟨W.heap.size + 1 + 1, 2, none⟩ (.int .i64 g.e0)).setCell ⟨W.heap.size + 1 + 1, 3, none⟩ (.int .i64 g.e1)).setCell ⟨W.heap.size + 1 + 1, 4, none⟩ (.int .i64 g.lim)) := (((((hB.setCell le_xr _).setCell le_xr _).setCell le_xr _).setCell le_xr _).setCell le_xr _)
  generalize (((((V1.setCell ⟨W.heap.size + 1 + 1, 0, none⟩ (.string g.b0)).setCell ⟨W.heap.size + 1 + 1, 1, none⟩ (.string g.b1)).setCell ⟨W.heap.size + 1 + 1, 2, none⟩ (.int .i64 g.e0)).setCell ⟨W.heap.size + 1 + 1, 3, none⟩ (.int .i64 g.e1)).setCell ⟨W.heap.size + 1 + 1, 4, none⟩ (.int .i64 g.lim)) = V2 at *
  have xf0 := xf.cell 0 rfl
  have xfz0 := xf.frozen 0
  have xf1 := xf.cell 1 rfl
  have xfz1 := xf.frozen 1
  have xf2 := xf.cell 2 rfl
  have xfz2 := xf.frozen 2
  have xf3 := xf.cell 3 rfl
  have xfz3 := xf.frozen 3
  have xf4 := xf.cell 4 rfl
  have xfz4 := xf.frozen 4
  have xo0 := xo.cell 0 rfl
  have xoz0 := xo.frozen 0
  have xo1 := xo.cell 1 rfl
  have xoz1 := xo.frozen 1
  have xo2 := xo.cell 2 rfl
  have xoz2 := xo.frozen 2
  have xo3 := xo.cell 3 rfl
  have xoz3 := xo.frozen 3
  have xr0 := xr.cell 0 rfl
  have xrz0 := xr.frozen 0
  have xr1 := xr.cell 1 rfl
  have xrz1 := xr.frozen 1
  have xr2 := xr.cell 2 rfl
  have xrz2 := xr.frozen 2
  have xr3 := xr.cell 3 rfl
  have xrz3 := xr.frozen 3
  have xr4 := xr.cell 4 rfl
  have xrz4 := xr.frozen 4
  exact bodyPost_ret (v := .tuple #[.agg #[.string g.b0, .string g.b1, .int .i64 g.e0, .int .i64 g.e1, .int .i64 g.lim], .int .i64 E]) (by simp [results, Tryz.results25, go_sem, xr0, xr1, xr2, xr3, xr4]) rfl ⟨rfl, hB⟩

set_option maxRecDepth 100000 in
set_option maxHeartbeats 4000000 in
theorem pwDo0 (f : Fl) (k b q : Int) (d : ByteArray) (W : World) (h1 : k ≠ 1) (h2 : k ≠ 2) :
    Calls Tryz.prog 25 #[.agg #[.string f.b0, .string f.b1, .int .i64 f.e0, .int .i64 f.e1, .int .i64 f.lim], .agg #[.int .i64 k, .int .i64 b, .int .i64 q, .string d]] W fun e W' => e = .returned (.tuple #[.agg #[.string f.b0, .string f.b1, .int .i64 f.e0, .int .i64 f.e1, .int .i64 f.lim], .int .i64 1]) ∧ Below W.heap.size W W' := by
  have n1 : (k == 1) = false := beq_eq_false_iff_ne.2 h1
  have n2 : (k == 2) = false := beq_eq_false_iff_ne.2 h2
  have hB : Below W.heap.size W (((W.alloc (.cells #[.string f.b0, .string f.b1, .int .i64 f.e0, .int .i64 f.e1, .int .i64 f.lim] 25)).alloc (.cells #[.int .i64 k, .int .i64 b, .int .i64 q, .string d] 46)).alloc (.cells #[.string ⟨#[]⟩, .string ⟨#[]⟩, .int .i64 0, .int .i64 0, .int .i64 0] 25)) := ((((Below.refl _ _).alloc (Nat.le_refl _) _).alloc (by simp) _).alloc (by simp; omega) _)
  have xf := (((Box.new 25 W [.string f.b0, .string f.b1, .int .i64 f.e0, .int .i64 f.e1, .int .i64 f.lim]).alloc (.cells #[.int .i64 k, .int .i64 b, .int .i64 q, .string d] 46)).alloc (.cells #[.string ⟨#[]⟩, .string ⟨#[]⟩, .int .i64 0, .int .i64 0, .int .i64 0] 25))
  have xo : Box 46 (((W.alloc (.cells #[.string f.b0, .string f.b1, .int .i64 f.e0, .int .i64 f.e1, .int .i64 f.lim] 25)).alloc (.cells #[.int .i64 k, .int .i64 b, .int .i64 q, .string d] 46)).alloc (.cells #[.string ⟨#[]⟩, .string ⟨#[]⟩, .int .i64 0, .int .i64 0, .int .i64 0] 25)) (W.heap.size + 1) [.int .i64 k, .int .i64 b, .int .i64 q, .string d] := by have h := ((Box.new 46 (W.alloc (.cells #[.string f.b0, .string f.b1, .int .i64 f.e0, .int .i64 f.e1, .int .i64 f.lim] 25)) [.int .i64 k, .int .i64 b, .int .i64 q, .string d]).alloc (.cells #[.string ⟨#[]⟩, .string ⟨#[]⟩, .int .i64 0, .int .i64 0, .int .i64 0] 25)); rwa [World.size_alloc] at h
  have le_xo : W.heap.size ≤ W.heap.size + 1 := by omega
  have xr : Box 25 (((W.alloc (.cells #[.string f.b0, .string f.b1, .int .i64 f.e0, .int .i64 f.e1, .int .i64 f.lim] 25)).alloc (.cells #[.int .i64 k, .int .i64 b, .int .i64 q, .string d] 46)).alloc (.cells #[.string ⟨#[]⟩, .string ⟨#[]⟩, .int .i64 0, .int .i64 0, .int .i64 0] 25)) (W.heap.size + 1 + 1) [.string ⟨#[]⟩, .string ⟨#[]⟩, .int .i64 0, .int .i64 0, .int .i64 0] := by have h := (Box.new 25 ((W.alloc (.cells #[.string f.b0, .string f.b1, .int .i64 f.e0, .int .i64 f.e1, .int .i64 f.lim] 25)).alloc (.cells #[.int .i64 k, .int .i64 b, .int .i64 q, .string d] 46)) [.string ⟨#[]⟩, .string ⟨#[]⟩, .int .i64 0, .int .i64 0, .int .i64 0]); rwa [World.size_alloc, World.size_alloc] at h
  have le_xr : W.heap.size ≤ W.heap.size + 1 + 1 := by omega
  go_enter Tryz.func25, Tryz.ntmps25
  go_wp2
  exact bodyPost_ret (v := .tuple #[.agg #[.string f.b0, .string f.b1, .int .i64 f.e0, .int .i64 f.e1, .int .i64 f.lim], .int .i64 1]) (by simp [results, Tryz.results25, go_sem]) rfl ⟨rfl, (((Below.refl _ _).alloc (Nat.le_refl _) _).alloc (by simp) _).alloc (by simp; omega) _⟩

theorem own04Do (f : Fl) (o : PwOp) (W : World) (hf : f.fit) (ho : o.ok) :
    Calls Tryz.prog 25 #[.agg #[.string f.b0, .string f.b1, .int .i64 f.e0, .int .i64 f.e1, .int .i64 f.lim], .agg #[.int .i64 o.kind, .int .i64 o.bank, .int .i64 o.q, .string o.d]] W fun e W' => e = .returned (.tuple #[.agg #[.string (doF f o).b0, .string (doF f o).b1, .int .i64 (doF f o).e0, .int .i64 (doF f o).e1, .int .i64 (doF f o).lim], .int .i64 (doErr f o)]) ∧ Below W.heap.size W W' := by
  obtain ⟨k, b, q, d⟩ := o
  have hd := ho.sd
  have hq := ho.nq
  by_cases h1 : k = 1
  · subst h1; exact pwDo1 f b q d W hf hd hq.2
  · by_cases h2 : k = 2
    · subst h2; exact pwDo2 f b q d W hf hd hq.2
    · have e1 : doErr f ⟨k, b, q, d⟩ = 1 := by unfold doErr; rw [if_neg h1, if_neg h2]
      have e2 : doF f ⟨k, b, q, d⟩ = f := by unfold doF; rw [if_neg h1, if_neg h2]
      rw [e1, e2]
      exact pwDo0 f k b q d W h1 h2

set_option maxRecDepth 100000 in
set_option maxHeartbeats 4000000 in
theorem pwUnreached (m : ByteArray) (n : Nat) (W : World) (hm : m.size ≤ maxLen) (hn : n ≤ 140737488351232) :
    Calls Tryz.prog 46 #[.string m, .int .i64 n] W fun e W' => e = .returned (.string (unrT m n)) ∧ Below W.heap.size W W' := by
  obtain ⟨i0, hi, hz0, hz1, hz2⟩ := info_parts Tryz.info_u8
  unfold maxLen at hm
  go_enter Tryz.func46, Tryz.ntmps46
  go_wp2_with (refine wpList_make_full _ rfl _ _ 83 rfl W.heap.size 5 i0 (.int .u8 0) 1 Tryz.underlying83 hi hz0 hz1 .i64 .i64 _ _ n rfl rfl rfl rfl (by rw [hz2]; omega) (by unfold maxLen; omega) (Nat.le_refl _) ?_; intro w1 hown hg1)
  have hB : Below W.heap.size W w1 := (Below.refl _ _).grown hg1 (Nat.le_refl _) (fun k e => by cases e)
  rw [show madeCells (Value.int .u8 0).cells (n * 1) = madeCells #[.int .u8 0] n from by simp [Value.cells], toList_madeCells_one] at hown
  have hz : (filled (unrF m) 0 n).map b8v = List.replicate n (.int .u8 0) := by rw [filled_zero]; simp [b8v]
  rw [← hz] at hown
  clear hz hg1
  go_loopw [11] (fun i w => ∃ k : Nat, k ≤ n ∧ i = .int .i64 k ∧ w.ownsRow W.heap.size 5 1 (.slice (some ⟨W.heap.size, 0, none⟩) n n) n ((filled (unrF m) k n).map b8v) ∧ Below W.heap.size W w)
    (fun i _ => n - (intOf i).toNat)
  case atStart => exact ⟨0, Nat.zero_le _, rfl, hown, hB⟩
  case round =>
    clear hown hB
    obtain ⟨k, hk, rfl, hown, hB⟩ := hrel
    by_cases hlt : k < n
    · have hfr := hown.frozenAt k
      have hcx := hown.cellAt k (by omega)
      rw [List.getElem?_eq_getElem (by rw [List.length_map, filled_length]; exact hlt)] at hcx
      have hx1 : (0 : Int) ≤ (k : Int) := by omega
      have hx2 : (k : Int) < (n : Int) := by omega
      have i1 : ¬ 9223372036854775807 < (k : Int) + 1 := by omega
      by_cases hin : k < m.size
      · have hin2 : (k : Int) < (m.size : Int) := by omega
        have hgd := gd_in m k 0 hin
        by_cases hodd : m[k].toNat % 2 = 1
        · have hv : unrF m k = 0 := by rw [unrF, hgd, unrB, if_pos hodd]
          have n1 : (((m[k].toNat : Int) % 2) == 0) = false := by rw [beq_eq_false_iff_ne]; omega
          have hown2 := hown
          rw [filled_skip _ _ _ hv] at hown2
          clear hown hgd hodd hv hfr hcx
          go_wp2
          go_roundw
          case rel => exact ⟨k + 1, by omega, by go_num, hown2, hB⟩
          case measure => simp [intOf]; omega
        · have hv : unrF m k = 255 := by rw [unrF, hgd, unrB, if_neg hodd]
          have n1 : (((m[k].toNat : Int) % 2) == 0) = true := by rw [beq_iff_eq]; omega
          have hst := (hown.stored k (.int .u8 255)).1
          rw [show (Value.int .u8 255) = b8v (unrF m k) from by rw [hv]; rfl, ← List.map_set, filled_set _ _ _ hlt, show b8v (unrF m k) = (Value.int .u8 255) from by rw [hv]; rfl] at hst
          replace hst := Lib.hid hst
          clear hown hgd hodd hv
          go_wp2
          go_roundw
          case rel => exact ⟨k + 1, by omega, by go_num, hst.out, hB.setCell (Nat.le_refl _) _⟩
          case measure => simp [intOf]; omega
      · have hin2 : (k : Int) ≥ (m.size : Int) := by omega
        have hv : unrF m k = 255 := by rw [unrF, gd_out m k 0 (by omega)]; rfl
        have hst := (hown.stored k (.int .u8 255)).1
        rw [show (Value.int .u8 255) = b8v (unrF m k) from by rw [hv]; rfl, ← List.map_set, filled_set _ _ _ hlt, show b8v (unrF m k) = (Value.int .u8 255) from by rw [hv]; rfl] at hst
        replace hst := Lib.hid hst
        clear hown hin hv
        go_wp2
        go_roundw
        case rel => exact ⟨k + 1, by omega, by go_num, hst.out, hB.setCell (Nat.le_refl _) _⟩
        case measure => simp [intOf]; omega
    · obtain rfl : k = n := by omega
      have hr := filled_all (unrF m) k
      rw [hr] at hown
      have hcv := owns_string (P := Tryz.prog) (src := 83) (dst := 9) Tryz.underlying83 Tryz.underlying5 Tryz.underlying9 hown
      clear hr hown
      go_wp2
      go_ret
      exact ⟨rfl, hB⟩
end Go.Proofs.YtiacdcnpkfpjaaaGreat

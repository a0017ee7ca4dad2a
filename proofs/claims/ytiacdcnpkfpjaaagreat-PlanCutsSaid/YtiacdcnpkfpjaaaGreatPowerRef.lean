/- The reference's functions of layer 4: contracts only. -/
import Derived.Test.YtiacdcnpkfpjaaaGreatRows
import Derived.Test.YtiacdcnpkfpjaaaGreatPowerFit
import Derived.Test.YtiacdcnpkfpjaaaGreatPowerOps
import Derived.Test.YtiacdcnpkfpjaaaGreatFlashDo
import Derived.Test.YtiacdcnpkfpjaaaGreatRef
import Derived.Test.YtiacdcnpkfpjaaaGreatBox
import Derived.Test.YtiacdcnpkfpjaaaGreatInts
import Derived.WalkKit
import Derived.ProofKit
import Derived.OwnWalk
import Derived.Lib.Hide
import Derived.BigQuiet
import Derived.Deep.QuietTactic
import Derived.Deep.RegionHeld3
import Derived.IntWalk
import Derived.WalkLawsBesides
import Derived.WalkMore
import Derived.Deep.Draws
namespace Go.Proofs.YtiacdcnpkfpjaaaGreat
open Go.RowKit
set_option linter.unusedVariables false
set_option linter.unusedSimpArgs false

set_option maxRecDepth 100000 in
set_option maxHeartbeats 4000000 in
theorem refDo1 (f : Fl) (b q : Int) (d : ByteArray) (W : World) (hf : f.fit) (hd : d.size ≤ maxLen) (hq : -9223372036854775808 ≤ q ∧ q ≤ 9223372036854775807) :
    Calls Tryz.prog 23 #[.agg #[.string f.b0, .string f.b1, .int .i64 f.e0, .int .i64 f.e1, .int .i64 f.lim], .agg #[.int .i64 1, .int .i64 b, .int .i64 q, .string d]] W fun e W' => e = .returned (.tuple #[.agg #[.string (progF f b q d).b0, .string (progF f b q d).b1, .int .i64 (progF f b q d).e0, .int .i64 (progF f b q d).e1, .int .i64 (progF f b q d).lim], .int .i64 (progErr f b q d)]) ∧ Below W.heap.size W W' := by
  have T := Lib.hid (fun (W : World) => ref03Program f b q d W hf hq hd)
  generalize progF f b q d = g at *
  generalize progErr f b q d = E at *
  have hB : Below W.heap.size W (((W.alloc (.cells #[.string f.b0, .string f.b1, .int .i64 f.e0, .int .i64 f.e1, .int .i64 f.lim] 37)).alloc (.cells #[.int .i64 1, .int .i64 b, .int .i64 q, .string d] 64)).alloc (.cells #[.string ⟨#[]⟩, .string ⟨#[]⟩, .int .i64 0, .int .i64 0, .int .i64 0] 37)) := ((((Below.refl _ _).alloc (Nat.le_refl _) _).alloc (by simp) _).alloc (by simp; omega) _)
  have xf := (((Box.new 37 W [.string f.b0, .string f.b1, .int .i64 f.e0, .int .i64 f.e1, .int .i64 f.lim]).alloc (.cells #[.int .i64 1, .int .i64 b, .int .i64 q, .string d] 64)).alloc (.cells #[.string ⟨#[]⟩, .string ⟨#[]⟩, .int .i64 0, .int .i64 0, .int .i64 0] 37))
  have xo : Box 64 (((W.alloc (.cells #[.string f.b0, .string f.b1, .int .i64 f.e0, .int .i64 f.e1, .int .i64 f.lim] 37)).alloc (.cells #[.int .i64 1, .int .i64 b, .int .i64 q, .string d] 64)).alloc (.cells #[.string ⟨#[]⟩, .string ⟨#[]⟩, .int .i64 0, .int .i64 0, .int .i64 0] 37)) (W.heap.size + 1) [.int .i64 1, .int .i64 b, .int .i64 q, .string d] := by have h := ((Box.new 64 (W.alloc (.cells #[.string f.b0, .string f.b1, .int .i64 f.e0, .int .i64 f.e1, .int .i64 f.lim] 37)) [.int .i64 1, .int .i64 b, .int .i64 q, .string d]).alloc (.cells #[.string ⟨#[]⟩, .string ⟨#[]⟩, .int .i64 0, .int .i64 0, .int .i64 0] 37)); rwa [World.size_alloc] at h
  have le_xo : W.heap.size ≤ W.heap.size + 1 := by omega
  have xr : Box 37 (((W.alloc (.cells #[.string f.b0, .string f.b1, .int .i64 f.e0, .int .i64 f.e1, .int .i64 f.lim] 37)).alloc (.cells #[.int .i64 1, .int .i64 b, .int .i64 q, .string d] 64)).alloc (.cells #[.string ⟨#[]⟩, .string ⟨#[]⟩, .int .i64 0, .int .i64 0, .int .i64 0] 37)) (W.heap.size + 1 + 1) [.string ⟨#[]⟩, .string ⟨#[]⟩, .int .i64 0, .int .i64 0, .int .i64 0] := by have h := (Box.new 37 ((W.alloc (.cells #[.string f.b0, .string f.b1, .int .i64 f.e0, .int .i64 f.e1, .int .i64 f.lim] 37)).alloc (.cells #[.int .i64 1, .int .i64 b, .int .i64 q, .string d] 64)) [.string ⟨#[]⟩, .string ⟨#[]⟩, .int .i64 0, .int .i64 0, .int .i64 0]); rwa [World.size_alloc, World.size_alloc] at h
  have le_xr : W.heap.size ≤ W.heap.size + 1 + 1 := by omega
  go_enter Tryz.func23, Tryz.ntmps23
  go_wp2_with fail
  refine (T.out _).mono ?_
  rintro e V1 ⟨rfl, hk⟩
  replace hB := below_seq hB hk
  replace xf := xf.seq hk
  replace xo := xo.seq hk
  replace xr := xr.seq hk
  clear hk
  have cxf := xf.f5
  have cxo := xo.f4
  have cxr := xr.f5
  go_wp2
  clear cxf cxo cxr
  replace xf : Box 37 (((((V1.setCell ⟨W.heap.size + 1 + 1, 0, none⟩ (.string g.b0)).setCell ⟨W.heap.size + 1 + 1, 1, none⟩ (.string g.b1)).setCell ⟨W.heap.size + 1 + 1, 2, none⟩ (.int .i64 g.e0)).setCell ⟨W.heap.size + 1 + 1, 3, none⟩ (.int .i64 g.e1)).setCell ⟨W.heap.size + 1 + 1, 4, none⟩ (.int .i64 g.lim)) (W.heap.size) [.string f.b0, .string f.b1, .int .i64 f.e0, .int .i64 f.e1, .int .i64 f.lim] := (((((xf.other (by omega) 0 (.string g.b0)).other (by omega) 1 (.string g.b1)).other (by omega) 2 (.int .i64 g.e0)).other (by omega) 3 (.int .i64 g.e1)).other (by omega) 4 (.int .i64 g.lim))
  replace xo : Box 64 (((((V1.setCell ⟨W.heap.size + 1 + 1, 0, none⟩ (.string g.b0)).setCell ⟨W.heap.size + 1 + 1, 1, none⟩ (.string g.b1)).setCell ⟨W.heap.size + 1 + 1, 2, none⟩ (.int .i64 g.e0)).setCell ⟨W.heap.size + 1 + 1, 3, none⟩ (.int .i64 g.e1)).setCell ⟨W.heap.size + 1 + 1, 4, none⟩ (.int .i64 g.lim)) (W.heap.size + 1) [.int .i64 1, .int .i64 b, .int .i64 q, .string d] := (((((xo.other (by omega) 0 (.string g.b0)).other (by omega) 1 (.string g.b1)).other (by omega) 2 (.int .i64 g.e0)).other (by omega) 3 (.int .i64 g.e1)).other (by omega) 4 (.int .i64 g.lim))
  replace xr : Box 37 (((((V1.setCell ⟨W.heap.size + 1 + 1, 0, none⟩ (.string g.b0)).setCell ⟨W.heap.size + 1 + 1, 1, none⟩ (.string g.b1)).setCell ⟨W.heap.size + 1 + 1, 2, none⟩ (.int .i64 g.e0)).setCell ⟨W.heap.size + 1 + 1, 3, none⟩ (.int .i64 g.e1)).setCell ⟨W.heap.size + 1 + 1, 4, none⟩ (.int .i64 g.lim)) (W.heap.size + 1 + 1) [.string g.b0, .string g.b1, .int .i64 g.e0, .int .i64 g.e1, .int .i64 g.lim] := (((((xr.set 0 (.string g.b0)).set 1 (.string g.b1)).set 2 (.int .i64 g.e0)).set 3 (.int .i64 g.e1)).set 4 (.int .i64 g.lim))
  replace hB : Below W.heap.size W (((((V1.setCell ⟨W.heap.size + 1 + 1, 0, none⟩ (.string g.b0)).setCell ⟨W.heap.size + 1 + 1, 1, none⟩ (.string g.b1)).setCell ⟨W.heap.size + 1 + 1, 2, none⟩ (.int .i64 g.e0)).setCell ⟨W.heap.size + 1 + 1, 3, none⟩ (.int .i64 g.e1)).setCell ⟨W.heap.size + 1 + 1, 4, none⟩ (.int .i64 g.lim)) := (((((hB.setCell le_xr _).setCell le_xr _).setCell le_xr _).setCell le_xr _).setCell le_xr _)
  generalize (((((V1.setCell ⟨W.heap.size + 1 + 1, 0, none⟩ (.string g.b0)).setCell ⟨W.heap.size + 1 + 1, 1, none⟩ (.string g.b1)).setCell ⟨W.heap.size + 1 + 1, 2, none⟩ (.int .i64 g.e0)).setCell ⟨W.heap.size + 1 + 1, 3, none⟩ (.int .i64 g.e1)).setCell ⟨W.heap.size + 1 + 1, 4, none⟩ (.int .i64 g.lim)) = V2 at *
  have cxf := xf.f5
  have cxo := xo.f4
  have cxr := xr.f5
  exact bodyPost_ret (v := .tuple #[.agg #[.string g.b0, .string g.b1, .int .i64 g.e0, .int .i64 g.e1, .int .i64 g.lim], .int .i64 E]) (by simp [results, Tryz.results23, go_sem, cxr]) rfl ⟨rfl, hB⟩

set_option maxRecDepth 100000 in
set_option maxHeartbeats 4000000 in
theorem refDo2 (f : Fl) (b q : Int) (d : ByteArray) (W : World) (hf : f.fit) (hd : d.size ≤ maxLen) (hq : -9223372036854775808 ≤ q ∧ q ≤ 9223372036854775807) :
    Calls Tryz.prog 23 #[.agg #[.string f.b0, .string f.b1, .int .i64 f.e0, .int .i64 f.e1, .int .i64 f.lim], .agg #[.int .i64 2, .int .i64 b, .int .i64 q, .string d]] W fun e W' => e = .returned (.tuple #[.agg #[.string (eraseF f b).b0, .string (eraseF f b).b1, .int .i64 (eraseF f b).e0, .int .i64 (eraseF f b).e1, .int .i64 (eraseF f b).lim], .int .i64 (eraseErr f b)]) ∧ Below W.heap.size W W' := by
  have T := Lib.hid (fun (W : World) => ref03Erase f b W hf)
  generalize eraseF f b = g at *
  generalize eraseErr f b = E at *
  have hB : Below W.heap.size W (((W.alloc (.cells #[.string f.b0, .string f.b1, .int .i64 f.e0, .int .i64 f.e1, .int .i64 f.lim] 37)).alloc (.cells #[.int .i64 2, .int .i64 b, .int .i64 q, .string d] 64)).alloc (.cells #[.string ⟨#[]⟩, .string ⟨#[]⟩, .int .i64 0, .int .i64 0, .int .i64 0] 37)) := ((((Below.refl _ _).alloc (Nat.le_refl _) _).alloc (by simp) _).alloc (by simp; omega) _)
  have xf := (((Box.new 37 W [.string f.b0, .string f.b1, .int .i64 f.e0, .int .i64 f.e1, .int .i64 f.lim]).alloc (.cells #[.int .i64 2, .int .i64 b, .int .i64 q, .string d] 64)).alloc (.cells #[.string ⟨#[]⟩, .string ⟨#[]⟩, .int .i64 0, .int .i64 0, .int .i64 0] 37))
  have xo : Box 64 (((W.alloc (.cells #[.string f.b0, .string f.b1, .int .i64 f.e0, .int .i64 f.e1, .int .i64 f.lim] 37)).alloc (.cells #[.int .i64 2, .int .i64 b, .int .i64 q, .string d] 64)).alloc (.cells #[.string ⟨#[]⟩, .string ⟨#[]⟩, .int .i64 0, .int .i64 0, .int .i64 0] 37)) (W.heap.size + 1) [.int .i64 2, .int .i64 b, .int .i64 q, .string d] := by have h := ((Box.new 64 (W.alloc (.cells #[.string f.b0, .string f.b1, .int .i64 f.e0, .int .i64 f.e1, .int .i64 f.lim] 37)) [.int .i64 2, .int .i64 b, .int .i64 q, .string d]).alloc (.cells #[.string ⟨#[]⟩, .string ⟨#[]⟩, .int .i64 0, .int .i64 0, .int .i64 0] 37)); rwa [World.size_alloc] at h
  have le_xo : W.heap.size ≤ W.heap.size + 1 := by omega
  have xr : Box 37 (((W.alloc (.cells #[.string f.b0, .string f.b1, .int .i64 f.e0, .int .i64 f.e1, .int .i64 f.lim] 37)).alloc (.cells #[.int .i64 2, .int .i64 b, .int .i64 q, .string d] 64)).alloc (.cells #[.string ⟨#[]⟩, .string ⟨#[]⟩, .int .i64 0, .int .i64 0, .int .i64 0] 37)) (W.heap.size + 1 + 1) [.string ⟨#[]⟩, .string ⟨#[]⟩, .int .i64 0, .int .i64 0, .int .i64 0] := by have h := (Box.new 37 ((W.alloc (.cells #[.string f.b0, .string f.b1, .int .i64 f.e0, .int .i64 f.e1, .int .i64 f.lim] 37)).alloc (.cells #[.int .i64 2, .int .i64 b, .int .i64 q, .string d] 64)) [.string ⟨#[]⟩, .string ⟨#[]⟩, .int .i64 0, .int .i64 0, .int .i64 0]); rwa [World.size_alloc, World.size_alloc] at h
  have le_xr : W.heap.size ≤ W.heap.size + 1 + 1 := by omega
  go_enter Tryz.func23, Tryz.ntmps23
  go_wp2_with fail
  refine (T.out _).mono ?_
  rintro e V1 ⟨rfl, hk⟩
  replace hB := below_seq hB hk
  replace xf := xf.seq hk
  replace xo := xo.seq hk
  replace xr := xr.seq hk
  clear hk
  have cxf := xf.f5
  have cxo := xo.f4
  have cxr := xr.f5
  go_wp2
  clear cxf cxo cxr
  replace xf : Box 37 (((((V1.setCell ⟨W.heap.size + 1 + 1, 0, none⟩ (.string g.b0)).setCell ⟨W.heap.size + 1 + 1, 1, none⟩ (.string g.b1)).setCell ⟨W.heap.size + 1 + 1, 2, none⟩ (.int .i64 g.e0)).setCell ⟨W.heap.size + 1 + 1, 3, none⟩ (.int .i64 g.e1)).setCell ⟨W.heap.size + 1 + 1, 4, none⟩ (.int .i64 g.lim)) (W.heap.size) [.string f.b0, .string f.b1, .int .i64 f.e0, .int .i64 f.e1, .int .i64 f.lim] := (((((xf.other (by omega) 0 (.string g.b0)).other (by omega) 1 (.string g.b1)).other (by omega) 2 (.int .i64 g.e0)).other (by omega) 3 (.int .i64 g.e1)).other (by omega) 4 (.int .i64 g.lim))
  replace xo : Box 64 (((((V1.setCell ⟨W.heap.size + 1 + 1, 0, none⟩ (.string g.b0)).setCell ⟨W.heap.size + 1 + 1, 1, none⟩ (.string g.b1)).setCell ⟨W.heap.size + 1 + 1, 2, none⟩ (.int .i64 g.e0)).setCell ⟨W.heap.size + 1 + 1, 3, none⟩ (.int .i64 g.e1)).setCell ⟨W.heap.size + 1 + 1, 4, none⟩ (.int .i64 g.lim)) (W.heap.size + 1) [.int .i64 2, .int .i64 b, .int .i64 q, .string d] := (((((xo.other (by omega) 0 (.string g.b0)).other (by omega) 1 (.string g.b1)).other (by omega) 2 (.int .i64 g.e0)).other (by omega) 3 (.int .i64 g.e1)).other (by omega) 4 (.int .i64 g.lim))
  replace xr : Box 37 (((((V1.setCell ⟨W.heap.size + 1 + 1, 0, none⟩ (.string g.b0)).setCell ⟨W.heap.size + 1 + 1, 1, none⟩ (.string g.b1)).setCell ⟨W.heap.size + 1 + 1, 2, none⟩ (.int .i64 g.e0)).setCell ⟨W.heap.size + 1 + 1, 3, none⟩ (.int .i64 g.e1)).setCell ⟨W.heap.size + 1 + 1, 4, none⟩ (.int .i64 g.lim)) (W.heap.size + 1 + 1) [.string g.b0, .string g.b1, .int .i64 g.e0, .int .i64 g.e1, .int .i64 g.lim] := (((((xr.set 0 (.string g.b0)).set 1 (.string g.b1)).set 2 (.int .i64 g.e0)).set 3 (.int .i64 g.e1)).set 4 (.int .i64 g.lim))
  replace hB : Below W.heap.size W (((((V1.setCell ⟨W.heap.size + 1 + 1, 0, none⟩ (.string g.b0)).setCell ⟨W.heap.size + 1 + 1, 1, none⟩ (.string g.b1)).setCell ⟨W.heap.size + 1 + 1, 2, none⟩ (.int .i64 g.e0)).setCell ⟨W.heap.size + 1 + 1, 3, none⟩ (.int .i64 g.e1)).setCell ⟨W.heap.size + 1 + 1, 4, none⟩ (.int .i64 g.lim)) := (((((hB.setCell le_xr _).setCell le_xr _).setCell le_xr _).setCell le_xr _).setCell le_xr _)
  generalize (((((V1.setCell ⟨W.heap.size + 1 + 1, 0, none⟩ (.string g.b0)).setCell ⟨W.heap.size + 1 + 1, 1, none⟩ (.string g.b1)).setCell ⟨W.heap.size + 1 + 1, 2, none⟩ (.int .i64 g.e0)).setCell ⟨W.heap.size + 1 + 1, 3, none⟩ (.int .i64 g.e1)).setCell ⟨W.heap.size + 1 + 1, 4, none⟩ (.int .i64 g.lim)) = V2 at *
  have cxf := xf.f5
  have cxo := xo.f4
  have cxr := xr.f5
  exact bodyPost_ret (v := .tuple #[.agg #[.string g.b0, .string g.b1, .int .i64 g.e0, .int .i64 g.e1, .int .i64 g.lim], .int .i64 E]) (by simp [results, Tryz.results23, go_sem, cxr]) rfl ⟨rfl, hB⟩

set_option maxRecDepth 100000 in
set_option maxHeartbeats 4000000 in
theorem refDo0 (f : Fl) (k b q : Int) (d : ByteArray) (W : World) (h1 : k ≠ 1) (h2 : k ≠ 2) :
    Calls Tryz.prog 23 #[.agg #[.string f.b0, .string f.b1, .int .i64 f.e0, .int .i64 f.e1, .int .i64 f.lim], .agg #[.int .i64 k, .int .i64 b, .int .i64 q, .string d]] W fun e W' => e = .returned (.tuple #[.agg #[.string f.b0, .string f.b1, .int .i64 f.e0, .int .i64 f.e1, .int .i64 f.lim], .int .i64 1]) ∧ Below W.heap.size W W' := by
  have n1 : (k == 1) = false := beq_eq_false_iff_ne.2 h1
  have n2 : (k == 2) = false := beq_eq_false_iff_ne.2 h2
  have hB : Below W.heap.size W (((W.alloc (.cells #[.string f.b0, .string f.b1, .int .i64 f.e0, .int .i64 f.e1, .int .i64 f.lim] 37)).alloc (.cells #[.int .i64 k, .int .i64 b, .int .i64 q, .string d] 64)).alloc (.cells #[.string f.b0, .string f.b1, .int .i64 f.e0, .int .i64 f.e1, .int .i64 f.lim] 37)) := ((((Below.refl _ _).alloc (Nat.le_refl _) _).alloc (by simp) _).alloc (by simp; omega) _)
  have xf := (((Box.new 37 W [.string f.b0, .string f.b1, .int .i64 f.e0, .int .i64 f.e1, .int .i64 f.lim]).alloc (.cells #[.int .i64 k, .int .i64 b, .int .i64 q, .string d] 64)).alloc (.cells #[.string f.b0, .string f.b1, .int .i64 f.e0, .int .i64 f.e1, .int .i64 f.lim] 37))
  have xo : Box 64 (((W.alloc (.cells #[.string f.b0, .string f.b1, .int .i64 f.e0, .int .i64 f.e1, .int .i64 f.lim] 37)).alloc (.cells #[.int .i64 k, .int .i64 b, .int .i64 q, .string d] 64)).alloc (.cells #[.string f.b0, .string f.b1, .int .i64 f.e0, .int .i64 f.e1, .int .i64 f.lim] 37)) (W.heap.size + 1) [.int .i64 k, .int .i64 b, .int .i64 q, .string d] := by have h := ((Box.new 64 (W.alloc (.cells #[.string f.b0, .string f.b1, .int .i64 f.e0, .int .i64 f.e1, .int .i64 f.lim] 37)) [.int .i64 k, .int .i64 b, .int .i64 q, .string d]).alloc (.cells #[.string f.b0, .string f.b1, .int .i64 f.e0, .int .i64 f.e1, .int .i64 f.lim] 37)); rwa [World.size_alloc] at h
  have le_xo : W.heap.size ≤ W.heap.size + 1 := by omega
  have xr : Box 37 (((W.alloc (.cells #[.string f.b0, .string f.b1, .int .i64 f.e0, .int .i64 f.e1, .int .i64 f.lim] 37)).alloc (.cells #[.int .i64 k, .int .i64 b, .int .i64 q, .string d] 64)).alloc (.cells #[.string f.b0, .string f.b1, .int .i64 f.e0, .int .i64 f.e1, .int .i64 f.lim] 37)) (W.heap.size + 1 + 1) [.string f.b0, .string f.b1, .int .i64 f.e0, .int .i64 f.e1, .int .i64 f.lim] := by have h := (Box.new 37 ((W.alloc (.cells #[.string f.b0, .string f.b1, .int .i64 f.e0, .int .i64 f.e1, .int .i64 f.lim] 37)).alloc (.cells #[.int .i64 k, .int .i64 b, .int .i64 q, .string d] 64)) [.string f.b0, .string f.b1, .int .i64 f.e0, .int .i64 f.e1, .int .i64 f.lim]); rwa [World.size_alloc, World.size_alloc] at h
  have le_xr : W.heap.size ≤ W.heap.size + 1 + 1 := by omega
  go_enter Tryz.func23, Tryz.ntmps23
  have cxf := xf.f5
  have cxo := xo.f4
  have cxr := xr.f5
  go_wp2
  exact bodyPost_ret (v := .tuple #[.agg #[.string f.b0, .string f.b1, .int .i64 f.e0, .int .i64 f.e1, .int .i64 f.lim], .int .i64 1]) (by simp [results, Tryz.results23, go_sem, cxr]) rfl ⟨rfl, hB⟩

theorem ref04Do (f : Fl) (o : PwOp) (W : World) (hf : f.fit) (ho : o.ok) :
    Calls Tryz.prog 23 #[.agg #[.string f.b0, .string f.b1, .int .i64 f.e0, .int .i64 f.e1, .int .i64 f.lim], .agg #[.int .i64 o.kind, .int .i64 o.bank, .int .i64 o.q, .string o.d]] W fun e W' => e = .returned (.tuple #[.agg #[.string (doF f o).b0, .string (doF f o).b1, .int .i64 (doF f o).e0, .int .i64 (doF f o).e1, .int .i64 (doF f o).lim], .int .i64 (doErr f o)]) ∧ Below W.heap.size W W' := by
  obtain ⟨k, b, q, d⟩ := o
  have hd := ho.sd
  have hq := ho.nq
  by_cases h1 : k = 1
  · subst h1; exact refDo1 f b q d W hf hd hq
  · by_cases h2 : k = 2
    · subst h2; exact refDo2 f b q d W hf hd hq
    · have e1 : doErr f ⟨k, b, q, d⟩ = 1 := by unfold doErr; rw [if_neg h1, if_neg h2]
      have e2 : doF f ⟨k, b, q, d⟩ = f := by unfold doF; rw [if_neg h1, if_neg h2]
      rw [e1, e2]
      exact refDo0 f k b q d W h1 h2

set_option maxRecDepth 100000 in
set_option maxHeartbeats 4000000 in
theorem refTear0 (f : Fl) (o : PwOp) (m : ByteArray) (W : World) (hf : f.fit) (ho : o.ok) (he : doErr f o ≠ 0) :
    Calls Tryz.prog 22 #[.agg #[.string f.b0, .string f.b1, .int .i64 f.e0, .int .i64 f.e1, .int .i64 f.lim], .agg #[.int .i64 o.kind, .int .i64 o.bank, .int .i64 o.q, .string o.d], .string m] W fun e W' => e = .returned (.tuple #[.agg #[.string f.b0, .string f.b1, .int .i64 f.e0, .int .i64 f.e1, .int .i64 f.lim], .int .i64 (doErr f o)]) ∧ Below W.heap.size W W' := by
  have TD := Lib.hid (fun (W : World) => (show Calls Tryz.prog 23 #[.agg #[.string f.b0, .string f.b1, .int .i64 f.e0, .int .i64 f.e1, .int .i64 f.lim], .agg #[.int .i64 o.kind, .int .i64 o.bank, .int .i64 o.q, .string o.d]] W fun e W' => e = .returned (.tuple #[.agg #[.string f.b0, .string f.b1, .int .i64 f.e0, .int .i64 f.e1, .int .i64 f.lim], .int .i64 (doErr f o)]) ∧ Below W.heap.size W W' from by have h := ref04Do f o W hf ho; rwa [doF_err he] at h))
  have nE : (doErr f o != 0) = true := bne_iff_ne.2 he
  clear he
  generalize doErr f o = E at *
  have hB : Below W.heap.size W (((W.alloc (.cells #[.string f.b0, .string f.b1, .int .i64 f.e0, .int .i64 f.e1, .int .i64 f.lim] 37)).alloc (.cells #[.int .i64 o.kind, .int .i64 o.bank, .int .i64 o.q, .string o.d] 64)).alloc (.cells #[.string ⟨#[]⟩, .string ⟨#[]⟩, .int .i64 0, .int .i64 0, .int .i64 0] 37)) := ((((Below.refl _ _).alloc (Nat.le_refl _) _).alloc (by simp) _).alloc (by simp; omega) _)
  have xf := (((Box.new 37 W [.string f.b0, .string f.b1, .int .i64 f.e0, .int .i64 f.e1, .int .i64 f.lim]).alloc (.cells #[.int .i64 o.kind, .int .i64 o.bank, .int .i64 o.q, .string o.d] 64)).alloc (.cells #[.string ⟨#[]⟩, .string ⟨#[]⟩, .int .i64 0, .int .i64 0, .int .i64 0] 37))
  have xo : Box 64 (((W.alloc (.cells #[.string f.b0, .string f.b1, .int .i64 f.e0, .int .i64 f.e1, .int .i64 f.lim] 37)).alloc (.cells #[.int .i64 o.kind, .int .i64 o.bank, .int .i64 o.q, .string o.d] 64)).alloc (.cells #[.string ⟨#[]⟩, .string ⟨#[]⟩, .int .i64 0, .int .i64 0, .int .i64 0] 37)) (W.heap.size + 1) [.int .i64 o.kind, .int .i64 o.bank, .int .i64 o.q, .string o.d] := by have h := ((Box.new 64 (W.alloc (.cells #[.string f.b0, .string f.b1, .int .i64 f.e0, .int .i64 f.e1, .int .i64 f.lim] 37)) [.int .i64 o.kind, .int .i64 o.bank, .int .i64 o.q, .string o.d]).alloc (.cells #[.string ⟨#[]⟩, .string ⟨#[]⟩, .int .i64 0, .int .i64 0, .int .i64 0] 37)); rwa [World.size_alloc] at h
  have le_xo : W.heap.size ≤ W.heap.size + 1 := by omega
  have xr : Box 37 (((W.alloc (.cells #[.string f.b0, .string f.b1, .int .i64 f.e0, .int .i64 f.e1, .int .i64 f.lim] 37)).alloc (.cells #[.int .i64 o.kind, .int .i64 o.bank, .int .i64 o.q, .string o.d] 64)).alloc (.cells #[.string ⟨#[]⟩, .string ⟨#[]⟩, .int .i64 0, .int .i64 0, .int .i64 0] 37)) (W.heap.size + 1 + 1) [.string ⟨#[]⟩, .string ⟨#[]⟩, .int .i64 0, .int .i64 0, .int .i64 0] := by have h := (Box.new 37 ((W.alloc (.cells #[.string f.b0, .string f.b1, .int .i64 f.e0, .int .i64 f.e1, .int .i64 f.lim] 37)).alloc (.cells #[.int .i64 o.kind, .int .i64 o.bank, .int .i64 o.q, .string o.d] 64)) [.string ⟨#[]⟩, .string ⟨#[]⟩, .int .i64 0, .int .i64 0, .int .i64 0]); rwa [World.size_alloc, World.size_alloc] at h
  have le_xr : W.heap.size ≤ W.heap.size + 1 + 1 := by omega
  go_enter Tryz.func22, Tryz.ntmps22
  go_wp2_with fail
  refine (TD.out _).mono ?_
  rintro e V1 ⟨rfl, hk⟩
  replace hB := below_seq hB hk
  replace xf := xf.seq hk
  replace xo := xo.seq hk
  replace xr := xr.seq hk
  clear hk
  have xw := Box.new 37 V1 [.string f.b0, .string f.b1, .int .i64 f.e0, .int .i64 f.e1, .int .i64 f.lim]
  have ne_xw_xf : V1.heap.size ≠ W.heap.size := Nat.ne_of_gt xf.lt
  have ne_xw_xo : V1.heap.size ≠ W.heap.size + 1 := Nat.ne_of_gt xo.lt
  have ne_xw_xr : V1.heap.size ≠ W.heap.size + 1 + 1 := Nat.ne_of_gt xr.lt
  have le_xw : W.heap.size ≤ V1.heap.size := hB.size
  replace xf := xf.alloc (.cells #[.string f.b0, .string f.b1, .int .i64 f.e0, .int .i64 f.e1, .int .i64 f.lim] 37)
  replace xo := xo.alloc (.cells #[.string f.b0, .string f.b1, .int .i64 f.e0, .int .i64 f.e1, .int .i64 f.lim] 37)
  replace xr := xr.alloc (.cells #[.string f.b0, .string f.b1, .int .i64 f.e0, .int .i64 f.e1, .int .i64 f.lim] 37)
  replace hB := hB.alloc hB.size (.cells #[.string f.b0, .string f.b1, .int .i64 f.e0, .int .i64 f.e1, .int .i64 f.lim] 37)
  have cxf := xf.f5
  have cxo := xo.f4
  have cxr := xr.f5
  have cxw := xw.f5
  go_wp2
  clear cxf cxo cxr cxw
  replace xf : Box 37 ((((((V1.alloc (.cells #[.string f.b0, .string f.b1, .int .i64 f.e0, .int .i64 f.e1, .int .i64 f.lim] 37)).setCell ⟨W.heap.size + 1 + 1, 0, none⟩ (.string f.b0)).setCell ⟨W.heap.size + 1 + 1, 1, none⟩ (.string f.b1)).setCell ⟨W.heap.size + 1 + 1, 2, none⟩ (.int .i64 f.e0)).setCell ⟨W.heap.size + 1 + 1, 3, none⟩ (.int .i64 f.e1)).setCell ⟨W.heap.size + 1 + 1, 4, none⟩ (.int .i64 f.lim)) (W.heap.size) [.string f.b0, .string f.b1, .int .i64 f.e0, .int .i64 f.e1, .int .i64 f.lim] := (((((xf.other (by omega) 0 (.string f.b0)).other (by omega) 1 (.string f.b1)).other (by omega) 2 (.int .i64 f.e0)).other (by omega) 3 (.int .i64 f.e1)).other (by omega) 4 (.int .i64 f.lim))
  replace xo : Box 64 ((((((V1.alloc (.cells #[.string f.b0, .string f.b1, .int .i64 f.e0, .int .i64 f.e1, .int .i64 f.lim] 37)).setCell ⟨W.heap.size + 1 + 1, 0, none⟩ (.string f.b0)).setCell ⟨W.heap.size + 1 + 1, 1, none⟩ (.string f.b1)).setCell ⟨W.heap.size + 1 + 1, 2, none⟩ (.int .i64 f.e0)).setCell ⟨W.heap.size + 1 + 1, 3, none⟩ (.int .i64 f.e1)).setCell ⟨W.heap.size + 1 + 1, 4, none⟩ (.int .i64 f.lim)) (W.heap.size + 1) [.int .i64 o.kind, .int .i64 o.bank, .int .i64 o.q, .string o.d] := (((((xo.other (by omega) 0 (.string f.b0)).other (by omega) 1 (.string f.b1)).other (by omega) 2 (.int .i64 f.e0)).other (by omega) 3 (.int .i64 f.e1)).other (by omega) 4 (.int .i64 f.lim))
  replace xw := (((((xw.other (Ne.symm ne_xw_xr) 0 (.string f.b0)).other (Ne.symm ne_xw_xr) 1 (.string f.b1)).other (Ne.symm ne_xw_xr) 2 (.int .i64 f.e0)).other (Ne.symm ne_xw_xr) 3 (.int .i64 f.e1)).other (Ne.symm ne_xw_xr) 4 (.int .i64 f.lim))
  replace xr : Box 37 ((((((V1.alloc (.cells #[.string f.b0, .string f.b1, .int .i64 f.e0, .int .i64 f.e1, .int .i64 f.lim] 37)).setCell ⟨W.heap.size + 1 + 1, 0, none⟩ (.string f.b0)).setCell ⟨W.heap.size + 1 + 1, 1, none⟩ (.string f.b1)).setCell ⟨W.heap.size + 1 + 1, 2, none⟩ (.int .i64 f.e0)).setCell ⟨W.heap.size + 1 + 1, 3, none⟩ (.int .i64 f.e1)).setCell ⟨W.heap.size + 1 + 1, 4, none⟩ (.int .i64 f.lim)) (W.heap.size + 1 + 1) [.string f.b0, .string f.b1, .int .i64 f.e0, .int .i64 f.e1, .int .i64 f.lim] := (((((xr.set 0 (.string f.b0)).set 1 (.string f.b1)).set 2 (.int .i64 f.e0)).set 3 (.int .i64 f.e1)).set 4 (.int .i64 f.lim))
  replace hB : Below W.heap.size W ((((((V1.alloc (.cells #[.string f.b0, .string f.b1, .int .i64 f.e0, .int .i64 f.e1, .int .i64 f.lim] 37)).setCell ⟨W.heap.size + 1 + 1, 0, none⟩ (.string f.b0)).setCell ⟨W.heap.size + 1 + 1, 1, none⟩ (.string f.b1)).setCell ⟨W.heap.size + 1 + 1, 2, none⟩ (.int .i64 f.e0)).setCell ⟨W.heap.size + 1 + 1, 3, none⟩ (.int .i64 f.e1)).setCell ⟨W.heap.size + 1 + 1, 4, none⟩ (.int .i64 f.lim)) := (((((hB.setCell le_xr _).setCell le_xr _).setCell le_xr _).setCell le_xr _).setCell le_xr _)
  generalize ((((((V1.alloc (.cells #[.string f.b0, .string f.b1, .int .i64 f.e0, .int .i64 f.e1, .int .i64 f.lim] 37)).setCell ⟨W.heap.size + 1 + 1, 0, none⟩ (.string f.b0)).setCell ⟨W.heap.size + 1 + 1, 1, none⟩ (.string f.b1)).setCell ⟨W.heap.size + 1 + 1, 2, none⟩ (.int .i64 f.e0)).setCell ⟨W.heap.size + 1 + 1, 3, none⟩ (.int .i64 f.e1)).setCell ⟨W.heap.size + 1 + 1, 4, none⟩ (.int .i64 f.lim)) = V2 at *
  have cxf := xf.f5
  have cxo := xo.f4
  have cxr := xr.f5
  have cxw := xw.f5
  exact bodyPost_ret (v := .tuple #[.agg #[.string f.b0, .string f.b1, .int .i64 f.e0, .int .i64 f.e1, .int .i64 f.lim], .int .i64 E]) (by simp [results, Tryz.results22, go_sem, cxr]) rfl ⟨rfl, hB⟩

set_option maxRecDepth 100000 in
set_option maxHeartbeats 4000000 in
theorem refTear1_0 (f : Fl) (p : Nat) (d m : ByteArray) (W : World) (hf : f.fit) (hd : d.size ≤ maxLen) (hm : m.size ≤ maxLen) (he : progErr f 0 (p : Int) d = 0) (hb : p + d.size ≤ f.b0.size) :
    Calls Tryz.prog 22 #[.agg #[.string f.b0, .string f.b1, .int .i64 f.e0, .int .i64 f.e1, .int .i64 f.lim], .agg #[.int .i64 1, .int .i64 0, .int .i64 (p : Int), .string d], .string m] W fun e W' => e = .returned (.tuple #[.agg #[.string (spliceT f.b0 p d m), .string f.b1, .int .i64 f.e0, .int .i64 f.e1, .int .i64 f.lim], .int .i64 0]) ∧ Below W.heap.size W W' := by
  have hs : f.b0.size ≤ 140737488351232 := hf.z0
  have TD := Lib.hid (fun (W : World) => (show Calls Tryz.prog 23 #[.agg #[.string f.b0, .string f.b1, .int .i64 f.e0, .int .i64 f.e1, .int .i64 f.lim], .agg #[.int .i64 1, .int .i64 0, .int .i64 (p : Int), .string d]] W fun e W' => e = .returned (.tuple #[.agg #[.string (progF f 0 (p : Int) d).b0, .string (progF f 0 (p : Int) d).b1, .int .i64 (progF f 0 (p : Int) d).e0, .int .i64 (progF f 0 (p : Int) d).e1, .int .i64 (progF f 0 (p : Int) d).lim], .int .i64 0]) ∧ Below W.heap.size W W' from by have h := refDo1 f 0 (p : Int) d W hf hd (by omega); rwa [he] at h))
  generalize progF f 0 (p : Int) d = g at *
  have TC := Lib.hid (fun (W : World) => refTorn (f.b0.extract p (p + d.size)) d m W (by simp; omega) (by unfold maxLen; omega) hm)
  have HS := (show spliceT f.b0 p d m = f.b0.extract 0 p ++ tornB (f.b0.extract p (p + d.size)) d m ++ f.b0.extract (p + d.size) f.b0.size from rfl)
  have hA : (tornB (f.b0.extract p (p + d.size)) d m).size = d.size := by rw [tornB_size]; simp; omega
  rw [HS]
  clear HS he
  generalize tornB (f.b0.extract p (p + d.size)) d m = A at *
  obtain ⟨w1, w2, v0, v1, v2, v3, v4, o1, o2, o3, o4⟩ := prog_nums hb hs hA
  generalize hpd : p + d.size = r at *
  have w3 : wrap64 (r : Int) = (r : Int) := by rw [← w2]; exact w1.trans w2.symm
  clear hb hA hpd hs
  have hB : Below W.heap.size W (((W.alloc (.cells #[.string f.b0, .string f.b1, .int .i64 f.e0, .int .i64 f.e1, .int .i64 f.lim] 37)).alloc (.cells #[.int .i64 1, .int .i64 0, .int .i64 (p : Int), .string d] 64)).alloc (.cells #[.string ⟨#[]⟩, .string ⟨#[]⟩, .int .i64 0, .int .i64 0, .int .i64 0] 37)) := ((((Below.refl _ _).alloc (Nat.le_refl _) _).alloc (by simp) _).alloc (by simp; omega) _)
  have xf := (((Box.new 37 W [.string f.b0, .string f.b1, .int .i64 f.e0, .int .i64 f.e1, .int .i64 f.lim]).alloc (.cells #[.int .i64 1, .int .i64 0, .int .i64 (p : Int), .string d] 64)).alloc (.cells #[.string ⟨#[]⟩, .string ⟨#[]⟩, .int .i64 0, .int .i64 0, .int .i64 0] 37))
  have xo : Box 64 (((W.alloc (.cells #[.string f.b0, .string f.b1, .int .i64 f.e0, .int .i64 f.e1, .int .i64 f.lim] 37)).alloc (.cells #[.int .i64 1, .int .i64 0, .int .i64 (p : Int), .string d] 64)).alloc (.cells #[.string ⟨#[]⟩, .string ⟨#[]⟩, .int .i64 0, .int .i64 0, .int .i64 0] 37)) (W.heap.size + 1) [.int .i64 1, .int .i64 0, .int .i64 (p : Int), .string d] := by have h := ((Box.new 64 (W.alloc (.cells #[.string f.b0, .string f.b1, .int .i64 f.e0, .int .i64 f.e1, .int .i64 f.lim] 37)) [.int .i64 1, .int .i64 0, .int .i64 (p : Int), .string d]).alloc (.cells #[.string ⟨#[]⟩, .string ⟨#[]⟩, .int .i64 0, .int .i64 0, .int .i64 0] 37)); rwa [World.size_alloc] at h
  have le_xo : W.heap.size ≤ W.heap.size + 1 := by omega
  have xr : Box 37 (((W.alloc (.cells #[.string f.b0, .string f.b1, .int .i64 f.e0, .int .i64 f.e1, .int .i64 f.lim] 37)).alloc (.cells #[.int .i64 1, .int .i64 0, .int .i64 (p : Int), .string d] 64)).alloc (.cells #[.string ⟨#[]⟩, .string ⟨#[]⟩, .int .i64 0, .int .i64 0, .int .i64 0] 37)) (W.heap.size + 1 + 1) [.string ⟨#[]⟩, .string ⟨#[]⟩, .int .i64 0, .int .i64 0, .int .i64 0] := by have h := (Box.new 37 ((W.alloc (.cells #[.string f.b0, .string f.b1, .int .i64 f.e0, .int .i64 f.e1, .int .i64 f.lim] 37)).alloc (.cells #[.int .i64 1, .int .i64 0, .int .i64 (p : Int), .string d] 64)) [.string ⟨#[]⟩, .string ⟨#[]⟩, .int .i64 0, .int .i64 0, .int .i64 0]); rwa [World.size_alloc, World.size_alloc] at h
  have le_xr : W.heap.size ≤ W.heap.size + 1 + 1 := by omega
  go_enter Tryz.func22, Tryz.ntmps22
  go_wp2_with fail
  refine (TD.out _).mono ?_
  rintro e V1 ⟨rfl, hk⟩
  replace hB := below_seq hB hk
  replace xf := xf.seq hk
  replace xo := xo.seq hk
  replace xr := xr.seq hk
  clear hk
  have xw := Box.new 37 V1 [.string g.b0, .string g.b1, .int .i64 g.e0, .int .i64 g.e1, .int .i64 g.lim]
  have ne_xw_xf : V1.heap.size ≠ W.heap.size := Nat.ne_of_gt xf.lt
  have ne_xw_xo : V1.heap.size ≠ W.heap.size + 1 := Nat.ne_of_gt xo.lt
  have ne_xw_xr : V1.heap.size ≠ W.heap.size + 1 + 1 := Nat.ne_of_gt xr.lt
  have le_xw : W.heap.size ≤ V1.heap.size := hB.size
  replace xf := xf.alloc (.cells #[.string g.b0, .string g.b1, .int .i64 g.e0, .int .i64 g.e1, .int .i64 g.lim] 37)
  replace xo := xo.alloc (.cells #[.string g.b0, .string g.b1, .int .i64 g.e0, .int .i64 g.e1, .int .i64 g.lim] 37)
  replace xr := xr.alloc (.cells #[.string g.b0, .string g.b1, .int .i64 g.e0, .int .i64 g.e1, .int .i64 g.lim] 37)
  replace hB := hB.alloc hB.size (.cells #[.string g.b0, .string g.b1, .int .i64 g.e0, .int .i64 g.e1, .int .i64 g.lim] 37)
  have cxf := xf.f5
  have cxo := xo.f4
  have cxr := xr.f5
  have cxw := xw.f5
  go_wp2_with fail
  generalize (V1.alloc (.cells #[.string g.b0, .string g.b1, .int .i64 g.e0, .int .i64 g.e1, .int .i64 g.lim] 37)) = V2 at *
  clear cxf cxo cxr cxw
  replace hB := hB.drew
  replace xf := xf.drew
  replace xo := xo.drew
  replace xr := xr.drew
  replace xw := xw.drew
  refine wp_region_held_drew (S := fun w' => w'.cell? ⟨W.heap.size + 1, 0, none⟩ = some (.int .i64 1) ∧ w'.cell? ⟨W.heap.size + 1, 1, none⟩ = some (.int .i64 0) ∧ w'.cell? ⟨W.heap.size + 1, 2, none⟩ = some (.int .i64 (p : Int)) ∧ w'.cell? ⟨W.heap.size + 1, 3, none⟩ = some (.string d)) (by kernel_rfl) ?_ (fun hHeld => ?_)
  · exact ⟨xo.cell 0 rfl, xo.cell 1 rfl, xo.cell 2 rfl, xo.cell 3 rfl⟩
  generalize V2.drew = V3 at *
  refine tk 0 (v := ?_) rfl (Or.inl ⟨by rfl, ?_⟩) ?_; rotate_left
  · intro w hSw; (try dsimp only at hSw); go_simp; try with_reducible rfl
  try simp only [Act.put, l1, l2, l3, l4, l5, l6]
  refine tk 1 (v := ?_) rfl (Or.inl ⟨by rfl, ?_⟩) ?_; rotate_left
  · intro w hSw; (try dsimp only at hSw); go_simp; try with_reducible rfl
  try simp only [Act.put, l1, l2, l3, l4, l5, l6]
  refine tk 2 (v := ?_) rfl (Or.inl ⟨by rfl, ?_⟩) ?_; rotate_left
  · intro w hSw; (try dsimp only at hSw); go_simp; try with_reducible rfl
  try simp only [Act.put, l1, l2, l3, l4, l5, l6]
  refine tk 3 (v := ?_) rfl (Or.inl ⟨by rfl, ?_⟩) ?_; rotate_left
  · intro w hSw; (try dsimp only at hSw); go_simp; try with_reducible rfl
  try simp only [Act.put, l1, l2, l3, l4, l5, l6]
  refine tk 4 (v := ?_) rfl (Or.inl ⟨by rfl, ?_⟩) ?_; rotate_left
  · intro w hSw; (try dsimp only at hSw); go_simp; try with_reducible rfl
  try simp only [Act.put, l1, l2, l3, l4, l5, l6]
  refine tk 5 (v := ?_) rfl (Or.inl ⟨by rfl, ?_⟩) ?_; rotate_left
  · intro w hSw; (try dsimp only at hSw); go_simp; try with_reducible rfl
  try simp only [Act.put, l1, l2, l3, l4, l5, l6]
  refine tk 6 (v := ?_) rfl (Or.inl ⟨by rfl, ?_⟩) ?_; rotate_left
  · intro w hSw; (try dsimp only at hSw); go_simp; try with_reducible rfl
  try simp only [Act.put, l1, l2, l3, l4, l5, l6]
  refine tk 7 (v := ?_) rfl (Or.inl ⟨by rfl, ?_⟩) ?_; rotate_left
  · intro w hSw; (try dsimp only at hSw); go_simp; try with_reducible rfl
  try simp only [Act.put, l1, l2, l3, l4, l5, l6]
  refine tk 8 (v := ?_) rfl (Or.inl ⟨by rfl, ?_⟩) ?_; rotate_left
  · intro w hSw; (try dsimp only at hSw); go_simp; try with_reducible rfl
  try simp only [Act.put, l1, l2, l3, l4, l5, l6]
  refine tk 9 (v := ?_) rfl (Or.inl ⟨by rfl, ?_⟩) ?_; rotate_left
  · intro w hSw; (try dsimp only at hSw); go_simp; try with_reducible rfl
  try simp only [Act.put, l1, l2, l3, l4, l5, l6]
  refine tk 10 (v := ?_) rfl (Or.inl ⟨by rfl, ?_⟩) ?_; rotate_left
  · intro w hSw; (try dsimp only at hSw); go_simp; try with_reducible rfl
  try simp only [Act.put, l1, l2, l3, l4, l5, l6]
  refine tk 11 (v := ?_) rfl (Or.inl ⟨by rfl, ?_⟩) ?_; rotate_left
  · intro w hSw; (try dsimp only at hSw); go_simp; try with_reducible rfl
  try simp only [Act.put, l1, l2, l3, l4, l5, l6]
  refine tk 12 (v := ?_) rfl (Or.inl ⟨by rfl, ?_⟩) ?_; rotate_left
  · intro w hSw; (try dsimp only at hSw); go_simp; try with_reducible rfl
  try simp only [Act.put, l1, l2, l3, l4, l5, l6]
  refine tk 13 (v := ?_) rfl (Or.inl ⟨by rfl, ?_⟩) ?_; rotate_left
  · intro w hSw; (try dsimp only at hSw); go_simp; try with_reducible rfl
  try simp only [Act.put, l1, l2, l3, l4, l5, l6]
  refine tk 16 (v := ?_) rfl (Or.inl ⟨by rfl, ?_⟩) ?_; rotate_left
  · intro w hSw; (try dsimp only at hSw); go_simp; try with_reducible rfl
  try simp only [Act.put, l1, l2, l3, l4, l5, l6]
  refine tk 17 (v := ?_) rfl (Or.inl ⟨by rfl, ?_⟩) ?_; rotate_left
  · intro w hSw; (try dsimp only at hSw); go_simp; try with_reducible rfl
  try simp only [Act.put, l1, l2, l3, l4, l5, l6]
  refine tk 18 (v := ?_) rfl (Or.inl ⟨by rfl, ?_⟩) ?_; rotate_left
  · intro w hSw; (try dsimp only at hSw); go_simp; try with_reducible rfl
  try simp only [Act.put, l1, l2, l3, l4, l5, l6]
  refine tk 20 (v := ?_) rfl (Or.inl ⟨by rfl, ?_⟩) ?_; rotate_left
  · intro w hSw; (try dsimp only at hSw); go_simp; try with_reducible rfl
  try simp only [Act.put, l1, l2, l3, l4, l5, l6]
  refine wpAnyH_ready (rs := [14]) (by kernel_rfl) (by simp) ?_
  refine AllReadyH.cons rfl (fun K hK => ?_) AllReadyH.nil
  have cxf := xf.f5
  have cxo := xo.f4
  have cxr := xr.f5
  have cxw := xw.f5
  go_simp
  refine (TC.out _).mono ?_
  rintro e V4 ⟨rfl, hk⟩
  clear cxf cxo cxr cxw
  replace hB := below_seq hB hk
  replace xf := xf.seq hk
  replace xo := xo.seq hk
  replace xr := xr.seq hk
  replace xw := xw.seq hk
  clear hk
  have cxf := xf.f5
  have cxo := xo.f4
  have cxr := xr.f5
  have cxw := xw.f5
  try go_wp2_with fail
  clear cxf cxo cxr cxw
  clear hHeld
  refine hK.out _ _ ?_ (fun hHeld => ?_)
  · exact ⟨xo.cell 0 rfl, xo.cell 1 rfl, xo.cell 2 rfl, xo.cell 3 rfl⟩
  clear hK K
  try simp only [Act.put, l1, l2, l3, l4, l5, l6]
  refine tk 15 (v := ?_) rfl (Or.inl ⟨by rfl, ?_⟩) ?_; rotate_left
  · intro w hSw; (try dsimp only at hSw); go_simp; try with_reducible rfl
  try simp only [Act.put, l1, l2, l3, l4, l5, l6]
  refine tk 19 (v := ?_) rfl (Or.inl ⟨by rfl, ?_⟩) ?_; rotate_left
  · intro w hSw; (try dsimp only at hSw); go_simp; try with_reducible rfl
  try simp only [Act.put, l1, l2, l3, l4, l5, l6]
  refine tk 21 (v := ?_) rfl (Or.inl ⟨by rfl, ?_⟩) ?_; rotate_left
  · intro w hSw; (try dsimp only at hSw); go_simp; try with_reducible rfl
  try simp only [Act.put, l1, l2, l3, l4, l5, l6]
  refine wpAnyH_ready (rs := [22]) (by kernel_rfl) (by simp) ?_
  refine AllReadyH.cons rfl (fun K hK => ?_) AllReadyH.nil
  have cxf := xf.f5
  have cxo := xo.f4
  have cxr := xr.f5
  have cxw := xw.f5
  go_simp
  try go_wp2_with fail
  clear cxf cxo cxr cxw
  replace xo : Box 64 (V4.setCell ⟨W.heap.size, 0, none⟩ (.string (f.b0.extract 0 p ++ A ++ f.b0.extract r f.b0.size))) (W.heap.size + 1) [.int .i64 1, .int .i64 0, .int .i64 (p : Int), .string d] := (xo.other (by omega) 0 (.string (f.b0.extract 0 p ++ A ++ f.b0.extract r f.b0.size)))
  replace xr : Box 37 (V4.setCell ⟨W.heap.size, 0, none⟩ (.string (f.b0.extract 0 p ++ A ++ f.b0.extract r f.b0.size))) (W.heap.size + 1 + 1) [.string ⟨#[]⟩, .string ⟨#[]⟩, .int .i64 0, .int .i64 0, .int .i64 0] := (xr.other (by omega) 0 (.string (f.b0.extract 0 p ++ A ++ f.b0.extract r f.b0.size)))
  replace xw := (xw.other (Ne.symm ne_xw_xf) 0 (.string (f.b0.extract 0 p ++ A ++ f.b0.extract r f.b0.size)))
  replace xf : Box 37 (V4.setCell ⟨W.heap.size, 0, none⟩ (.string (f.b0.extract 0 p ++ A ++ f.b0.extract r f.b0.size))) (W.heap.size) [.string (f.b0.extract 0 p ++ A ++ f.b0.extract r f.b0.size), .string f.b1, .int .i64 f.e0, .int .i64 f.e1, .int .i64 f.lim] := (xf.set 0 (.string (f.b0.extract 0 p ++ A ++ f.b0.extract r f.b0.size)))
  replace hB : Below W.heap.size W (V4.setCell ⟨W.heap.size, 0, none⟩ (.string (f.b0.extract 0 p ++ A ++ f.b0.extract r f.b0.size))) := (hB.setCell (Nat.le_refl _) _)
  generalize (V4.setCell ⟨W.heap.size, 0, none⟩ (.string (f.b0.extract 0 p ++ A ++ f.b0.extract r f.b0.size))) = V5 at *
  clear hHeld
  refine hK.out _ _ ?_ (fun hHeld => ?_)
  · exact ⟨xo.cell 0 rfl, xo.cell 1 rfl, xo.cell 2 rfl, xo.cell 3 rfl⟩
  clear hK K
  try simp only [Act.put, l1, l2, l3, l4, l5, l6]
  refine wpAnyH_done (by kernel_rfl) ?_ _
  clear hHeld
  have cxf := xf.f5
  have cxo := xo.f4
  have cxr := xr.f5
  have cxw := xw.f5
  go_wp2
  clear cxf cxo cxr cxw
  replace xf : Box 37 (((((V5.setCell ⟨W.heap.size + 1 + 1, 0, none⟩ (.string (f.b0.extract 0 p ++ A ++ f.b0.extract r f.b0.size))).setCell ⟨W.heap.size + 1 + 1, 1, none⟩ (.string f.b1)).setCell ⟨W.heap.size + 1 + 1, 2, none⟩ (.int .i64 f.e0)).setCell ⟨W.heap.size + 1 + 1, 3, none⟩ (.int .i64 f.e1)).setCell ⟨W.heap.size + 1 + 1, 4, none⟩ (.int .i64 f.lim)) (W.heap.size) [.string (f.b0.extract 0 p ++ A ++ f.b0.extract r f.b0.size), .string f.b1, .int .i64 f.e0, .int .i64 f.e1, .int .i64 f.lim] := (((((xf.other (by omega) 0 (.string (f.b0.extract 0 p ++ A ++ f.b0.extract r f.b0.size))).other (by omega) 1 (.string f.b1)).other (by omega) 2 (.int .i64 f.e0)).other (by omega) 3 (.int .i64 f.e1)).other (by omega) 4 (.int .i64 f.lim))
  replace xo : Box 64 (((((V5.setCell ⟨W.heap.size + 1 + 1, 0, none⟩ (.string (f.b0.extract 0 p ++ A ++ f.b0.extract r f.b0.size))).setCell ⟨W.heap.size + 1 + 1, 1, none⟩ (.string f.b1)).setCell ⟨W.heap.size + 1 + 1, 2, none⟩ (.int .i64 f.e0)).setCell ⟨W.heap.size + 1 + 1, 3, none⟩ (.int .i64 f.e1)).setCell ⟨W.heap.size + 1 + 1, 4, none⟩ (.int .i64 f.lim)) (W.heap.size + 1) [.int .i64 1, .int .i64 0, .int .i64 (p : Int), .string d] := (((((xo.other (by omega) 0 (.string (f.b0.extract 0 p ++ A ++ f.b0.extract r f.b0.size))).other (by omega) 1 (.string f.b1)).other (by omega) 2 (.int .i64 f.e0)).other (by omega) 3 (.int .i64 f.e1)).other (by omega) 4 (.int .i64 f.lim))
  replace xw := (((((xw.other (Ne.symm ne_xw_xr) 0 (.string (f.b0.extract 0 p ++ A ++ f.b0.extract r f.b0.size))).other (Ne.symm ne_xw_xr) 1 (.string f.b1)).other (Ne.symm ne_xw_xr) 2 (.int .i64 f.e0)).other (Ne.symm ne_xw_xr) 3 (.int .i64 f.e1)).other (Ne.symm ne_xw_xr) 4 (.int .i64 f.lim))
  replace xr : Box 37 (((((V5.setCell ⟨W.heap.size + 1 + 1, 0, none⟩ (.string (f.b0.extract 0 p ++ A ++ f.b0.extract r f.b0.size))).setCell ⟨W.heap.size + 1 + 1, 1, none⟩ (.string f.b1)).setCell ⟨W.heap.size + 1 + 1, 2, none⟩ (.int .i64 f.e0)).setCell ⟨W.heap.size + 1 + 1, 3, none⟩ (.int .i64 f.e1)).setCell ⟨W.heap.size + 1 + 1, 4, none⟩ (.int .i64 f.lim)) (W.heap.size + 1 + 1) [.string (f.b0.extract 0 p ++ A ++ f.b0.extract r f.b0.size), .string f.b1, .int .i64 f.e0, .int .i64 f.e1, .int .i64 f.lim] := (((((xr.set 0 (.string (f.b0.extract 0 p ++ A ++ f.b0.extract r f.b0.size))).set 1 (.string f.b1)).set 2 (.int .i64 f.e0)).set 3 (.int .i64 f.e1)).set 4 (.int .i64 f.lim))
  replace hB : Below W.heap.size W (((((V5.setCell ⟨W.heap.size + 1 + 1, 0, none⟩ (.string (f.b0.extract 0 p ++ A ++ f.b0.extract r f.b0.size))).setCell ⟨W.heap.size + 1 + 1, 1, none⟩ (.string f.b1)).setCell ⟨W.heap.size + 1 + 1, 2, none⟩ (.int .i64 f.e0)).setCell ⟨W.heap.size + 1 + 1, 3, none⟩ (.int .i64 f.e1)).setCell ⟨W.heap.size + 1 + 1, 4, none⟩ (.int .i64 f.lim)) := (((((hB.setCell le_xr _).setCell le_xr _).setCell le_xr _).setCell le_xr _).setCell le_xr _)
  generalize (((((V5.setCell ⟨W.heap.size + 1 + 1, 0, none⟩ (.string (f.b0.extract 0 p ++ A ++ f.b0.extract r f.b0.size))).setCell ⟨W.heap.size + 1 + 1, 1, none⟩ (.string f.b1)).setCell ⟨W.heap.size + 1 + 1, 2, none⟩ (.int .i64 f.e0)).setCell ⟨W.heap.size + 1 + 1, 3, none⟩ (.int .i64 f.e1)).setCell ⟨W.heap.size + 1 + 1, 4, none⟩ (.int .i64 f.lim)) = V6 at *
  have cxf := xf.f5
  have cxo := xo.f4
  have cxr := xr.f5
  have cxw := xw.f5
  exact bodyPost_ret (v := .tuple #[.agg #[.string (f.b0.extract 0 p ++ A ++ f.b0.extract r f.b0.size), .string f.b1, .int .i64 f.e0, .int .i64 f.e1, .int .i64 f.lim], .int .i64 0]) (by simp [results, Tryz.results22, go_sem, cxr]) rfl ⟨rfl, hB⟩

set_option maxRecDepth 100000 in
set_option maxHeartbeats 4000000 in
theorem refTear1_1 (f : Fl) (p : Nat) (d m : ByteArray) (W : World) (hf : f.fit) (hd : d.size ≤ maxLen) (hm : m.size ≤ maxLen) (he : progErr f 1 (p : Int) d = 0) (hb : p + d.size ≤ f.b1.size) :
    Calls Tryz.prog 22 #[.agg #[.string f.b0, .string f.b1, .int .i64 f.e0, .int .i64 f.e1, .int .i64 f.lim], .agg #[.int .i64 1, .int .i64 1, .int .i64 (p : Int), .string d], .string m] W fun e W' => e = .returned (.tuple #[.agg #[.string f.b0, .string (spliceT f.b1 p d m), .int .i64 f.e0, .int .i64 f.e1, .int .i64 f.lim], .int .i64 0]) ∧ Below W.heap.size W W' := by
  have hs : f.b1.size ≤ 140737488351232 := hf.z1
  have TD := Lib.hid (fun (W : World) => (show Calls Tryz.prog 23 #[.agg #[.string f.b0, .string f.b1, .int .i64 f.e0, .int .i64 f.e1, .int .i64 f.lim], .agg #[.int .i64 1, .int .i64 1, .int .i64 (p : Int), .string d]] W fun e W' => e = .returned (.tuple #[.agg #[.string (progF f 1 (p : Int) d).b0, .string (progF f 1 (p : Int) d).b1, .int .i64 (progF f 1 (p : Int) d).e0, .int .i64 (progF f 1 (p : Int) d).e1, .int .i64 (progF f 1 (p : Int) d).lim], .int .i64 0]) ∧ Below W.heap.size W W' from by have h := refDo1 f 1 (p : Int) d W hf hd (by omega); rwa [he] at h))
  generalize progF f 1 (p : Int) d = g at *
  have TC := Lib.hid (fun (W : World) => refTorn (f.b1.extract p (p + d.size)) d m W (by simp; omega) (by unfold maxLen; omega) hm)
  have HS := (show spliceT f.b1 p d m = f.b1.extract 0 p ++ tornB (f.b1.extract p (p + d.size)) d m ++ f.b1.extract (p + d.size) f.b1.size from rfl)
  have hA : (tornB (f.b1.extract p (p + d.size)) d m).size = d.size := by rw [tornB_size]; simp; omega
  rw [HS]
  clear HS he
  generalize tornB (f.b1.extract p (p + d.size)) d m = A at *
  obtain ⟨w1, w2, v0, v1, v2, v3, v4, o1, o2, o3, o4⟩ := prog_nums hb hs hA
  generalize hpd : p + d.size = r at *
  have w3 : wrap64 (r : Int) = (r : Int) := by rw [← w2]; exact w1.trans w2.symm
  clear hb hA hpd hs
  have hB : Below W.heap.size W (((W.alloc (.cells #[.string f.b0, .string f.b1, .int .i64 f.e0, .int .i64 f.e1, .int .i64 f.lim] 37)).alloc (.cells #[.int .i64 1, .int .i64 1, .int .i64 (p : Int), .string d] 64)).alloc (.cells #[.string ⟨#[]⟩, .string ⟨#[]⟩, .int .i64 0, .int .i64 0, .int .i64 0] 37)) := ((((Below.refl _ _).alloc (Nat.le_refl _) _).alloc (by simp) _).alloc (by simp; omega) _)
  have xf := (((Box.new 37 W [.string f.b0, .string f.b1, .int .i64 f.e0, .int .i64 f.e1, .int .i64 f.lim]).alloc (.cells #[.int .i64 1, .int .i64 1, .int .i64 (p : Int), .string d] 64)).alloc (.cells #[.string ⟨#[]⟩, .string ⟨#[]⟩, .int .i64 0, .int .i64 0, .int .i64 0] 37))
  have xo : Box 64 (((W.alloc (.cells #[.string f.b0, .string f.b1, .int .i64 f.e0, .int .i64 f.e1, .int .i64 f.lim] 37)).alloc (.cells #[.int .i64 1, .int .i64 1, .int .i64 (p : Int), .string d] 64)).alloc (.cells #[.string ⟨#[]⟩, .string ⟨#[]⟩, .int .i64 0, .int .i64 0, .int .i64 0] 37)) (W.heap.size + 1) [.int .i64 1, .int .i64 1, .int .i64 (p : Int), .string d] := by have h := ((Box.new 64 (W.alloc (.cells #[.string f.b0, .string f.b1, .int .i64 f.e0, .int .i64 f.e1, .int .i64 f.lim] 37)) [.int .i64 1, .int .i64 1, .int .i64 (p : Int), .string d]).alloc (.cells #[.string ⟨#[]⟩, .string ⟨#[]⟩, .int .i64 0, .int .i64 0, .int .i64 0] 37)); rwa [World.size_alloc] at h
  have le_xo : W.heap.size ≤ W.heap.size + 1 := by omega
  have xr : Box 37 (((W.alloc (.cells #[.string f.b0, .string f.b1, .int .i64 f.e0, .int .i64 f.e1, .int .i64 f.lim] 37)).alloc (.cells #[.int .i64 1, .int .i64 1, .int .i64 (p : Int), .string d] 64)).alloc (.cells #[.string ⟨#[]⟩, .string ⟨#[]⟩, .int .i64 0, .int .i64 0, .int .i64 0] 37)) (W.heap.size + 1 + 1) [.string ⟨#[]⟩, .string ⟨#[]⟩, .int .i64 0, .int .i64 0, .int .i64 0] := by have h := (Box.new 37 ((W.alloc (.cells #[.string f.b0, .string f.b1, .int .i64 f.e0, .int .i64 f.e1, .int .i64 f.lim] 37)).alloc (.cells #[.int .i64 1, .int .i64 1, .int .i64 (p : Int), .string d] 64)) [.string ⟨#[]⟩, .string ⟨#[]⟩, .int .i64 0, .int .i64 0, .int .i64 0]); rwa [World.size_alloc, World.size_alloc] at h
  have le_xr : W.heap.size ≤ W.heap.size + 1 + 1 := by omega
  go_enter Tryz.func22, Tryz.ntmps22
  go_wp2_with fail
  refine (TD.out _).mono ?_
  rintro e V1 ⟨rfl, hk⟩
  replace hB := below_seq hB hk
  replace xf := xf.seq hk
  replace xo := xo.seq hk
  replace xr := xr.seq hk
  clear hk
  have xw := Box.new 37 V1 [.string g.b0, .string g.b1, .int .i64 g.e0, .int .i64 g.e1, .int .i64 g.lim]
  have ne_xw_xf : V1.heap.size ≠ W.heap.size := Nat.ne_of_gt xf.lt
  have ne_xw_xo : V1.heap.size ≠ W.heap.size + 1 := Nat.ne_of_gt xo.lt
  have ne_xw_xr : V1.heap.size ≠ W.heap.size + 1 + 1 := Nat.ne_of_gt xr.lt
  have le_xw : W.heap.size ≤ V1.heap.size := hB.size
  replace xf := xf.alloc (.cells #[.string g.b0, .string g.b1, .int .i64 g.e0, .int .i64 g.e1, .int .i64 g.lim] 37)
  replace xo := xo.alloc (.cells #[.string g.b0, .string g.b1, .int .i64 g.e0, .int .i64 g.e1, .int .i64 g.lim] 37)
  replace xr := xr.alloc (.cells #[.string g.b0, .string g.b1, .int .i64 g.e0, .int .i64 g.e1, .int .i64 g.lim] 37)
  replace hB := hB.alloc hB.size (.cells #[.string g.b0, .string g.b1, .int .i64 g.e0, .int .i64 g.e1, .int .i64 g.lim] 37)
  have cxf := xf.f5
  have cxo := xo.f4
  have cxr := xr.f5
  have cxw := xw.f5
  go_wp2_with fail
  generalize (V1.alloc (.cells #[.string g.b0, .string g.b1, .int .i64 g.e0, .int .i64 g.e1, .int .i64 g.lim] 37)) = V2 at *
  clear cxf cxo cxr cxw
  replace hB := hB.drew
  replace xf := xf.drew
  replace xo := xo.drew
  replace xr := xr.drew
  replace xw := xw.drew
  refine wp_region_held_drew (S := fun w' => w'.cell? ⟨W.heap.size + 1, 0, none⟩ = some (.int .i64 1) ∧ w'.cell? ⟨W.heap.size + 1, 1, none⟩ = some (.int .i64 1) ∧ w'.cell? ⟨W.heap.size + 1, 2, none⟩ = some (.int .i64 (p : Int)) ∧ w'.cell? ⟨W.heap.size + 1, 3, none⟩ = some (.string d)) (by kernel_rfl) ?_ (fun hHeld => ?_)
  · exact ⟨xo.cell 0 rfl, xo.cell 1 rfl, xo.cell 2 rfl, xo.cell 3 rfl⟩
  generalize V2.drew = V3 at *
  refine tk 0 (v := ?_) rfl (Or.inl ⟨by rfl, ?_⟩) ?_; rotate_left
  · intro w hSw; (try dsimp only at hSw); go_simp; try with_reducible rfl
  try simp only [Act.put, l1, l2, l3, l4, l5, l6]
  refine tk 1 (v := ?_) rfl (Or.inl ⟨by rfl, ?_⟩) ?_; rotate_left
  · intro w hSw; (try dsimp only at hSw); go_simp; try with_reducible rfl
  try simp only [Act.put, l1, l2, l3, l4, l5, l6]
  refine tk 2 (v := ?_) rfl (Or.inl ⟨by rfl, ?_⟩) ?_; rotate_left
  · intro w hSw; (try dsimp only at hSw); go_simp; try with_reducible rfl
  try simp only [Act.put, l1, l2, l3, l4, l5, l6]
  refine tk 3 (v := ?_) rfl (Or.inl ⟨by rfl, ?_⟩) ?_; rotate_left
  · intro w hSw; (try dsimp only at hSw); go_simp; try with_reducible rfl
  try simp only [Act.put, l1, l2, l3, l4, l5, l6]
  refine tk 4 (v := ?_) rfl (Or.inl ⟨by rfl, ?_⟩) ?_; rotate_left
  · intro w hSw; (try dsimp only at hSw); go_simp; try with_reducible rfl
  try simp only [Act.put, l1, l2, l3, l4, l5, l6]
  refine tk 5 (v := ?_) rfl (Or.inl ⟨by rfl, ?_⟩) ?_; rotate_left
  · intro w hSw; (try dsimp only at hSw); go_simp; try with_reducible rfl
  try simp only [Act.put, l1, l2, l3, l4, l5, l6]
  refine tk 6 (v := ?_) rfl (Or.inl ⟨by rfl, ?_⟩) ?_; rotate_left
  · intro w hSw; (try dsimp only at hSw); go_simp; try with_reducible rfl
  try simp only [Act.put, l1, l2, l3, l4, l5, l6]
  refine tk 7 (v := ?_) rfl (Or.inl ⟨by rfl, ?_⟩) ?_; rotate_left
  · intro w hSw; (try dsimp only at hSw); go_simp; try with_reducible rfl
  try simp only [Act.put, l1, l2, l3, l4, l5, l6]
  refine tk 8 (v := ?_) rfl (Or.inl ⟨by rfl, ?_⟩) ?_; rotate_left
  · intro w hSw; (try dsimp only at hSw); go_simp; try with_reducible rfl
  try simp only [Act.put, l1, l2, l3, l4, l5, l6]
  refine tk 9 (v := ?_) rfl (Or.inl ⟨by rfl, ?_⟩) ?_; rotate_left
  · intro w hSw; (try dsimp only at hSw); go_simp; try with_reducible rfl
  try simp only [Act.put, l1, l2, l3, l4, l5, l6]
  refine tk 10 (v := ?_) rfl (Or.inl ⟨by rfl, ?_⟩) ?_; rotate_left
  · intro w hSw; (try dsimp only at hSw); go_simp; try with_reducible rfl
  try simp only [Act.put, l1, l2, l3, l4, l5, l6]
  refine tk 11 (v := ?_) rfl (Or.inl ⟨by rfl, ?_⟩) ?_; rotate_left
  · intro w hSw; (try dsimp only at hSw); go_simp; try with_reducible rfl
  try simp only [Act.put, l1, l2, l3, l4, l5, l6]
  refine tk 12 (v := ?_) rfl (Or.inl ⟨by rfl, ?_⟩) ?_; rotate_left
  · intro w hSw; (try dsimp only at hSw); go_simp; try with_reducible rfl
  try simp only [Act.put, l1, l2, l3, l4, l5, l6]
  refine tk 13 (v := ?_) rfl (Or.inl ⟨by rfl, ?_⟩) ?_; rotate_left
  · intro w hSw; (try dsimp only at hSw); go_simp; try with_reducible rfl
  try simp only [Act.put, l1, l2, l3, l4, l5, l6]
  refine tk 16 (v := ?_) rfl (Or.inl ⟨by rfl, ?_⟩) ?_; rotate_left
  · intro w hSw; (try dsimp only at hSw); go_simp; try with_reducible rfl
  try simp only [Act.put, l1, l2, l3, l4, l5, l6]
  refine tk 17 (v := ?_) rfl (Or.inl ⟨by rfl, ?_⟩) ?_; rotate_left
  · intro w hSw; (try dsimp only at hSw); go_simp; try with_reducible rfl
  try simp only [Act.put, l1, l2, l3, l4, l5, l6]
  refine tk 18 (v := ?_) rfl (Or.inl ⟨by rfl, ?_⟩) ?_; rotate_left
  · intro w hSw; (try dsimp only at hSw); go_simp; try with_reducible rfl
  try simp only [Act.put, l1, l2, l3, l4, l5, l6]
  refine tk 20 (v := ?_) rfl (Or.inl ⟨by rfl, ?_⟩) ?_; rotate_left
  · intro w hSw; (try dsimp only at hSw); go_simp; try with_reducible rfl
  try simp only [Act.put, l1, l2, l3, l4, l5, l6]
  refine wpAnyH_ready (rs := [14]) (by kernel_rfl) (by simp) ?_
  refine AllReadyH.cons rfl (fun K hK => ?_) AllReadyH.nil
  have cxf := xf.f5
  have cxo := xo.f4
  have cxr := xr.f5
  have cxw := xw.f5
  go_simp
  refine (TC.out _).mono ?_
  rintro e V4 ⟨rfl, hk⟩
  clear cxf cxo cxr cxw
  replace hB := below_seq hB hk
  replace xf := xf.seq hk
  replace xo := xo.seq hk
  replace xr := xr.seq hk
  replace xw := xw.seq hk
  clear hk
  have cxf := xf.f5
  have cxo := xo.f4
  have cxr := xr.f5
  have cxw := xw.f5
  try go_wp2_with fail
  clear cxf cxo cxr cxw
  clear hHeld
  refine hK.out _ _ ?_ (fun hHeld => ?_)
  · exact ⟨xo.cell 0 rfl, xo.cell 1 rfl, xo.cell 2 rfl, xo.cell 3 rfl⟩
  clear hK K
  try simp only [Act.put, l1, l2, l3, l4, l5, l6]
  refine tk 15 (v := ?_) rfl (Or.inl ⟨by rfl, ?_⟩) ?_; rotate_left
  · intro w hSw; (try dsimp only at hSw); go_simp; try with_reducible rfl
  try simp only [Act.put, l1, l2, l3, l4, l5, l6]
  refine tk 19 (v := ?_) rfl (Or.inl ⟨by rfl, ?_⟩) ?_; rotate_left
  · intro w hSw; (try dsimp only at hSw); go_simp; try with_reducible rfl
  try simp only [Act.put, l1, l2, l3, l4, l5, l6]
  refine tk 21 (v := ?_) rfl (Or.inl ⟨by rfl, ?_⟩) ?_; rotate_left
  · intro w hSw; (try dsimp only at hSw); go_simp; try with_reducible rfl
  try simp only [Act.put, l1, l2, l3, l4, l5, l6]
  refine wpAnyH_ready (rs := [22]) (by kernel_rfl) (by simp) ?_
  refine AllReadyH.cons rfl (fun K hK => ?_) AllReadyH.nil
  have cxf := xf.f5
  have cxo := xo.f4
  have cxr := xr.f5
  have cxw := xw.f5
  go_simp
  try go_wp2_with fail
  clear cxf cxo cxr cxw
  replace xo : Box 64 (V4.setCell ⟨W.heap.size, 1, none⟩ (.string (f.b1.extract 0 p ++ A ++ f.b1.extract r f.b1.size))) (W.heap.size + 1) [.int .i64 1, .int .i64 1, .int .i64 (p : Int), .string d] := (xo.other (by omega) 1 (.string (f.b1.extract 0 p ++ A ++ f.b1.extract r f.b1.size)))
  replace xr : Box 37 (V4.setCell ⟨W.heap.size, 1, none⟩ (.string (f.b1.extract 0 p ++ A ++ f.b1.extract r f.b1.size))) (W.heap.size + 1 + 1) [.string ⟨#[]⟩, .string ⟨#[]⟩, .int .i64 0, .int .i64 0, .int .i64 0] := (xr.other (by omega) 1 (.string (f.b1.extract 0 p ++ A ++ f.b1.extract r f.b1.size)))
  replace xw := (xw.other (Ne.symm ne_xw_xf) 1 (.string (f.b1.extract 0 p ++ A ++ f.b1.extract r f.b1.size)))
  replace xf : Box 37 (V4.setCell ⟨W.heap.size, 1, none⟩ (.string (f.b1.extract 0 p ++ A ++ f.b1.extract r f.b1.size))) (W.heap.size) [.string f.b0, .string (f.b1.extract 0 p ++ A ++ f.b1.extract r f.b1.size), .int .i64 f.e0, .int .i64 f.e1, .int .i64 f.lim] := (xf.set 1 (.string (f.b1.extract 0 p ++ A ++ f.b1.extract r f.b1.size)))
  replace hB : Below W.heap.size W (V4.setCell ⟨W.heap.size, 1, none⟩ (.string (f.b1.extract 0 p ++ A ++ f.b1.extract r f.b1.size))) := (hB.setCell (Nat.le_refl _) _)
  generalize (V4.setCell ⟨W.heap.size, 1, none⟩ (.string (f.b1.extract 0 p ++ A ++ f.b1.extract r f.b1.size))) = V5 at *
  clear hHeld
  refine hK.out _ _ ?_ (fun hHeld => ?_)
  · exact ⟨xo.cell 0 rfl, xo.cell 1 rfl, xo.cell 2 rfl, xo.cell 3 rfl⟩
  clear hK K
  try simp only [Act.put, l1, l2, l3, l4, l5, l6]
  refine wpAnyH_done (by kernel_rfl) ?_ _
  clear hHeld
  have cxf := xf.f5
  have cxo := xo.f4
  have cxr := xr.f5
  have cxw := xw.f5
  go_wp2
  clear cxf cxo cxr cxw
  replace xf : Box 37 (((((V5.setCell ⟨W.heap.size + 1 + 1, 0, none⟩ (.string f.b0)).setCell ⟨W.heap.size + 1 + 1, 1, none⟩ (.string (f.b1.extract 0 p ++ A ++ f.b1.extract r f.b1.size))).setCell ⟨W.heap.size + 1 + 1, 2, none⟩ (.int .i64 f.e0)).setCell ⟨W.heap.size + 1 + 1, 3, none⟩ (.int .i64 f.e1)).setCell ⟨W.heap.size + 1 + 1, 4, none⟩ (.int .i64 f.lim)) (W.heap.size) [.string f.b0, .string (f.b1.extract 0 p ++ A ++ f.b1.extract r f.b1.size), .int .i64 f.e0, .int .i64 f.e1, .int .i64 f.lim] := (((((xf.other (by omega) 0 (.string f.b0)).other (by omega) 1 (.string (f.b1.extract 0 p ++ A ++ f.b1.extract r f.b1.size))).other (by omega) 2 (.int .i64 f.e0)).other (by omega) 3 (.int .i64 f.e1)).other (by omega) 4 (.int .i64 f.lim))
  replace xo : Box 64 (((((V5.setCell ⟨W.heap.size + 1 + 1, 0, none⟩ (.string f.b0)).setCell ⟨W.heap.size + 1 + 1, 1, none⟩ (.string (f.b1.extract 0 p ++ A ++ f.b1.extract r f.b1.size))).setCell ⟨W.heap.size + 1 + 1, 2, none⟩ (.int .i64 f.e0)).setCell ⟨W.heap.size + 1 + 1, 3, none⟩ (.int .i64 f.e1)).setCell ⟨W.heap.size + 1 + 1, 4, none⟩ (.int .i64 f.lim)) (W.heap.size + 1) [.int .i64 1, .int .i64 1, .int .i64 (p : Int), .string d] := (((((xo.other (by omega) 0 (.string f.b0)).other (by omega) 1 (.string (f.b1.extract 0 p ++ A ++ f.b1.extract r f.b1.size))).other (by omega) 2 (.int .i64 f.e0)).other (by omega) 3 (.int .i64 f.e1)).other (by omega) 4 (.int .i64 f.lim))
  replace xw := (((((xw.other (Ne.symm ne_xw_xr) 0 (.string f.b0)).other (Ne.symm ne_xw_xr) 1 (.string (f.b1.extract 0 p ++ A ++ f.b1.extract r f.b1.size))).other (Ne.symm ne_xw_xr) 2 (.int .i64 f.e0)).other (Ne.symm ne_xw_xr) 3 (.int .i64 f.e1)).other (Ne.symm ne_xw_xr) 4 (.int .i64 f.lim))
  replace xr : Box 37 (((((V5.setCell ⟨W.heap.size + 1 + 1, 0, none⟩ (.string f.b0)).setCell ⟨W.heap.size + 1 + 1, 1, none⟩ (.string (f.b1.extract 0 p ++ A ++ f.b1.extract r f.b1.size))).setCell ⟨W.heap.size + 1 + 1, 2, none⟩ (.int .i64 f.e0)).setCell ⟨W.heap.size + 1 + 1, 3, none⟩ (.int .i64 f.e1)).setCell ⟨W.heap.size + 1 + 1, 4, none⟩ (.int .i64 f.lim)) (W.heap.size + 1 + 1) [.string f.b0, .string (f.b1.extract 0 p ++ A ++ f.b1.extract r f.b1.size), .int .i64 f.e0, .int .i64 f.e1, .int .i64 f.lim] := (((((xr.set 0 (.string f.b0)).set 1 (.string (f.b1.extract 0 p ++ A ++ f.b1.extract r f.b1.size))).set 2 (.int .i64 f.e0)).set 3 (.int .i64 f.e1)).set 4 (.int .i64 f.lim))
  replace hB : Below W.heap.size W (((((V5.setCell ⟨W.heap.size + 1 + 1, 0, none⟩ (.string f.b0)).setCell ⟨W.heap.size + 1 + 1, 1, none⟩ (.string (f.b1.extract 0 p ++ A ++ f.b1.extract r f.b1.size))).setCell ⟨W.heap.size + 1 + 1, 2, none⟩ (.int .i64 f.e0)).setCell ⟨W.heap.size + 1 + 1, 3, none⟩ (.int .i64 f.e1)).setCell ⟨W.heap.size + 1 + 1, 4, none⟩ (.int .i64 f.lim)) := (((((hB.setCell le_xr _).setCell le_xr _).setCell le_xr _).setCell le_xr _).setCell le_xr _)
  generalize (((((V5.setCell ⟨W.heap.size + 1 + 1, 0, none⟩ (.string f.b0)).setCell ⟨W.heap.size + 1 + 1, 1, none⟩ (.string (f.b1.extract 0 p ++ A ++ f.b1.extract r f.b1.size))).setCell ⟨W.heap.size + 1 + 1, 2, none⟩ (.int .i64 f.e0)).setCell ⟨W.heap.size + 1 + 1, 3, none⟩ (.int .i64 f.e1)).setCell ⟨W.heap.size + 1 + 1, 4, none⟩ (.int .i64 f.lim)) = V6 at *
  have cxf := xf.f5
  have cxo := xo.f4
  have cxr := xr.f5
  have cxw := xw.f5
  exact bodyPost_ret (v := .tuple #[.agg #[.string f.b0, .string (f.b1.extract 0 p ++ A ++ f.b1.extract r f.b1.size), .int .i64 f.e0, .int .i64 f.e1, .int .i64 f.lim], .int .i64 0]) (by simp [results, Tryz.results22, go_sem, cxr]) rfl ⟨rfl, hB⟩

theorem Box.grown {t : TypeId} {W W' : World} {row : Option Nat} {B : Nat} {vs : List Value} (h : Box t W B vs) (hg : W.grownBy W' row) (hn : ∀ k, row = some k → B < k) : Box t W' B vs := (hg.block B h.lt (fun e => Nat.lt_irrefl _ (hn B e.symm))).trans h
def eraF (s m : ByteArray) (i : Nat) : UInt8 := eraB (gd (bl s) i 0) (gd (bl m) i 0)
theorem eraT_is (s m : ByteArray) : eraT s m = bs (upto (eraF s m) s.size) := rfl
theorem eraF_odd {s m : ByteArray} {k : Nat} (h : k < m.size) (o : m[k].toNat % 2 = 1) : eraF s m k = 255 := by
  unfold eraF eraB; rw [gd_in m k 0 h, if_pos o]
theorem eraF_even {s m : ByteArray} {k : Nat} (hk : k < s.size) (h : k < m.size) (o : ¬ m[k].toNat % 2 = 1) : eraF s m k = s[k] := by
  unfold eraF eraB; rw [gd_in m k 0 h, if_neg o, gd_in s k 0 hk]
theorem eraF_out {s m : ByteArray} {k : Nat} (hk : k < s.size) (h : ¬ k < m.size) : eraF s m k = s[k] := by
  unfold eraF eraB; rw [gd_out m k 0 (by omega), gd_in s k 0 hk]; rfl

set_option maxRecDepth 100000 in
set_option maxHeartbeats 4000000 in
theorem refTear2_0 (f : Fl) (q : Int) (d m : ByteArray) (W : World) (hf : f.fit) (hd : d.size ≤ maxLen) (hq : -9223372036854775808 ≤ q ∧ q ≤ 9223372036854775807) (hm : m.size ≤ maxLen) (he : eraseErr f 0 = 0) :
    Calls Tryz.prog 22 #[.agg #[.string f.b0, .string f.b1, .int .i64 f.e0, .int .i64 f.e1, .int .i64 f.lim], .agg #[.int .i64 2, .int .i64 0, .int .i64 q, .string d], .string m] W fun e W' => e = .returned (.tuple #[.agg #[.string (eraT f.b0 m), .string f.b1, .int .i64 (f.e0 + 1), .int .i64 f.e1, .int .i64 f.lim], .int .i64 0]) ∧ Below W.heap.size W W' := by
  obtain ⟨i0, hi, hz0, hz1, hz2⟩ := info_parts Tryz.info_u8
  have hs : f.b0.size ≤ 140737488351232 := hf.z0
  have hg : eraseF f 0 = ⟨blankT f.b0.size, f.b1, f.e0 + 1, f.e1, f.lim⟩ := by rw [eraseF_banks he]; rfl
  have TD := Lib.hid (fun (W : World) => (show Calls Tryz.prog 23 #[.agg #[.string f.b0, .string f.b1, .int .i64 f.e0, .int .i64 f.e1, .int .i64 f.lim], .agg #[.int .i64 2, .int .i64 0, .int .i64 q, .string d]] W fun e W' => e = .returned (.tuple #[.agg #[.string (blankT f.b0.size), .string f.b1, .int .i64 (f.e0 + 1), .int .i64 f.e1, .int .i64 f.lim], .int .i64 0]) ∧ Below W.heap.size W W' from by have h := refDo2 f 0 q d W hf hd hq; rwa [he, hg] at h))
  rw [eraT_is]
  clear he hg
  unfold maxLen at hm
  have hB : Below W.heap.size W (((W.alloc (.cells #[.string f.b0, .string f.b1, .int .i64 f.e0, .int .i64 f.e1, .int .i64 f.lim] 37)).alloc (.cells #[.int .i64 2, .int .i64 0, .int .i64 q, .string d] 64)).alloc (.cells #[.string ⟨#[]⟩, .string ⟨#[]⟩, .int .i64 0, .int .i64 0, .int .i64 0] 37)) := ((((Below.refl _ _).alloc (Nat.le_refl _) _).alloc (by simp) _).alloc (by simp; omega) _)
  have xf := (((Box.new 37 W [.string f.b0, .string f.b1, .int .i64 f.e0, .int .i64 f.e1, .int .i64 f.lim]).alloc (.cells #[.int .i64 2, .int .i64 0, .int .i64 q, .string d] 64)).alloc (.cells #[.string ⟨#[]⟩, .string ⟨#[]⟩, .int .i64 0, .int .i64 0, .int .i64 0] 37))
  have xo : Box 64 (((W.alloc (.cells #[.string f.b0, .string f.b1, .int .i64 f.e0, .int .i64 f.e1, .int .i64 f.lim] 37)).alloc (.cells #[.int .i64 2, .int .i64 0, .int .i64 q, .string d] 64)).alloc (.cells #[.string ⟨#[]⟩, .string ⟨#[]⟩, .int .i64 0, .int .i64 0, .int .i64 0] 37)) (W.heap.size + 1) [.int .i64 2, .int .i64 0, .int .i64 q, .string d] := by have h := ((Box.new 64 (W.alloc (.cells #[.string f.b0, .string f.b1, .int .i64 f.e0, .int .i64 f.e1, .int .i64 f.lim] 37)) [.int .i64 2, .int .i64 0, .int .i64 q, .string d]).alloc (.cells #[.string ⟨#[]⟩, .string ⟨#[]⟩, .int .i64 0, .int .i64 0, .int .i64 0] 37)); rwa [World.size_alloc] at h
  have le_xo : W.heap.size ≤ W.heap.size + 1 := by omega
  have xr : Box 37 (((W.alloc (.cells #[.string f.b0, .string f.b1, .int .i64 f.e0, .int .i64 f.e1, .int .i64 f.lim] 37)).alloc (.cells #[.int .i64 2, .int .i64 0, .int .i64 q, .string d] 64)).alloc (.cells #[.string ⟨#[]⟩, .string ⟨#[]⟩, .int .i64 0, .int .i64 0, .int .i64 0] 37)) (W.heap.size + 1 + 1) [.string ⟨#[]⟩, .string ⟨#[]⟩, .int .i64 0, .int .i64 0, .int .i64 0] := by have h := (Box.new 37 ((W.alloc (.cells #[.string f.b0, .string f.b1, .int .i64 f.e0, .int .i64 f.e1, .int .i64 f.lim] 37)).alloc (.cells #[.int .i64 2, .int .i64 0, .int .i64 q, .string d] 64)) [.string ⟨#[]⟩, .string ⟨#[]⟩, .int .i64 0, .int .i64 0, .int .i64 0]); rwa [World.size_alloc, World.size_alloc] at h
  have le_xr : W.heap.size ≤ W.heap.size + 1 + 1 := by omega
  go_enter Tryz.func22, Tryz.ntmps22
  go_wp2_with fail
  refine (TD.out _).mono ?_
  rintro e V1 ⟨rfl, hk⟩
  replace hB := below_seq hB hk
  replace xf := xf.seq hk
  replace xo := xo.seq hk
  replace xr := xr.seq hk
  clear hk
  have hcw := xr.lt
  have xw := Box.new 37 V1 [.string (blankT f.b0.size), .string f.b1, .int .i64 (f.e0 + 1), .int .i64 f.e1, .int .i64 f.lim]
  have ne_xw_xf : V1.heap.size ≠ W.heap.size := Nat.ne_of_gt xf.lt
  have ne_xw_xo : V1.heap.size ≠ W.heap.size + 1 := Nat.ne_of_gt xo.lt
  have ne_xw_xr : V1.heap.size ≠ W.heap.size + 1 + 1 := Nat.ne_of_gt xr.lt
  have le_xw : W.heap.size ≤ V1.heap.size := hB.size
  replace xf := xf.alloc (.cells #[.string (blankT f.b0.size), .string f.b1, .int .i64 (f.e0 + 1), .int .i64 f.e1, .int .i64 f.lim] 37)
  replace xo := xo.alloc (.cells #[.string (blankT f.b0.size), .string f.b1, .int .i64 (f.e0 + 1), .int .i64 f.e1, .int .i64 f.lim] 37)
  replace xr := xr.alloc (.cells #[.string (blankT f.b0.size), .string f.b1, .int .i64 (f.e0 + 1), .int .i64 f.e1, .int .i64 f.lim] 37)
  replace hB := hB.alloc hB.size (.cells #[.string (blankT f.b0.size), .string f.b1, .int .i64 (f.e0 + 1), .int .i64 f.e1, .int .i64 f.lim] 37)
  have cxf := xf.f5
  have cxo := xo.f4
  have cxr := xr.f5
  have cxw := xw.f5
  go_wp2
  clear cxf cxo cxr cxw
  have hown := World.ownsRow_made (base := V1.heap.size + 1) (e := 5) (size := 1) (V1.alloc (.cells #[.string (blankT f.b0.size), .string f.b1, .int .i64 (f.e0 + 1), .int .i64 f.e1, .int .i64 f.lim] 37)) #[] 0 (by simp) (by simp) rfl
  rw [World.size_alloc] at hown
  replace xf := xf.alloc (.cells #[] 5)
  replace xo := xo.alloc (.cells #[] 5)
  replace xr := xr.alloc (.cells #[] 5)
  replace xw := xw.alloc (.cells #[] 5)
  replace hB := hB.alloc hB.size (.cells #[] 5)
  generalize V1.heap.size = cw at *
  generalize (V1.alloc (.cells #[.string (blankT f.b0.size), .string f.b1, .int .i64 (f.e0 + 1), .int .i64 f.e1, .int .i64 f.lim] 37)).alloc (.cells #[] 5) = V2 at *
  go_loopw [12, 13] (fun v i w => ∃ k : Nat, k ≤ f.b0.size ∧ i = .int .i64 k ∧ w.ownsRow (cw + 1) 5 1 v k ((upto (eraF f.b0 m) k).map b8v) ∧ Box 37 w (W.heap.size) [.string f.b0, .string f.b1, .int .i64 f.e0, .int .i64 f.e1, .int .i64 f.lim] ∧ Box 64 w (W.heap.size + 1) [.int .i64 2, .int .i64 0, .int .i64 q, .string d] ∧ Box 37 w (W.heap.size + 1 + 1) [.string ⟨#[]⟩, .string ⟨#[]⟩, .int .i64 0, .int .i64 0, .int .i64 0] ∧ Box 37 w (cw) [.string (blankT f.b0.size), .string f.b1, .int .i64 (f.e0 + 1), .int .i64 f.e1, .int .i64 f.lim] ∧ Below W.heap.size W w)
    (fun _ i _ => f.b0.size - (intOf i).toNat)
  case atStart => exact ⟨0, Nat.zero_le _, rfl, hown, xf, xo, xr, xw, hB⟩
  case round =>
    clear hown xf xo xr xw hB
    obtain ⟨k, hk, rfl, hown, xf, xo, xr, xw, hB⟩ := hrel
    by_cases hlt : k < f.b0.size
    · by_cases hin : k < m.size
      · have hin2 : (k : Int) < (m.size : Int) := by omega
        by_cases hodd : m[k].toNat % 2 = 1
        · have hlt2 : (k : Int) < (f.b0.size : Int) := by omega
          have n1 : (((m[k].toNat : Int) % 2) == 1) = true := by rw [beq_iff_eq]; omega
          have He := Lib.hid (show b8v (eraF f.b0 m k) = Value.int .u8 255 from by rw [eraF_odd hin hodd]; rfl)
          go_wp2_with (at_builtin; refine wpList_append_own _ rfl _ _ 83 rfl (cw + 1) 5 i0 (.int .u8 0) 1 1 Tryz.underlying83 hi hz0 hz1 hz2 rfl (by decide) _ _ _ rfl (hown.alloc _) ⟨wr.heap.size, 0, none⟩ 1 1 [b8v (eraF f.b0 m k)] rfl rfl ?c1 ?c2 ?c3 ?c4 ?c5 ?_)
          case c1 => rw [He.out]; first | exact cell_one_new _ _ _ | exact fun _ _ h => h
          case c2 => simp [Value.oneCell', b8v]
          case c3 => unfold maxLen; omega
          case c4 => omega
          case c5 => have := xw.lt; simp; omega
          intro v' w1 hown' hgrow _
          have hne : ∀ j, (_ : Value).ownBlock = some j → cw + 1 ≤ j := fun j e => (hown.lt j e).1
          have xf' := (xf.alloc (.cells #[.int .u8 255] 5)).grown hgrow (fun j e => by have := hne j e; omega)
          have xo' := (xo.alloc (.cells #[.int .u8 255] 5)).grown hgrow (fun j e => by have := hne j e; omega)
          have xr' := (xr.alloc (.cells #[.int .u8 255] 5)).grown hgrow (fun j e => by have := hne j e; omega)
          have xw' := (xw.alloc (.cells #[.int .u8 255] 5)).grown hgrow (fun j e => by have := hne j e; omega)
          have hB' : Below W.heap.size W w1 := (hB.alloc hB.size _).grown hgrow (by have := hB.size; simp; omega) (fun j e => by have := hne j e; omega)
          have H3 := Lib.hid (show w1.ownsRow (cw + 1) 5 1 v' (k + 1) ((upto (eraF f.b0 m) (k + 1)).map b8v) from by rw [upto_succ, List.map_append]; exact hown')
          clear hown' hown hgrow hB hne xf xo xr xw He
          go_wp2
          go_roundw
          case rel => exact ⟨k + 1, by omega, by go_num, H3.out, xf', xo', xr', xw', hB'⟩
          case measure => simp [intOf]; omega
        · have hlt2 : (k : Int) < (f.b0.size : Int) := by omega
          have n1 : (((m[k].toNat : Int) % 2) == 1) = false := by rw [beq_eq_false_iff_ne]; omega
          have He := Lib.hid (show b8v (eraF f.b0 m k) = Value.int .u8 (f.b0[k].toNat : Int) from by rw [eraF_even hlt hin hodd]; rfl)
          go_wp2_with (at_builtin; refine wpList_append_own _ rfl _ _ 83 rfl (cw + 1) 5 i0 (.int .u8 0) 1 1 Tryz.underlying83 hi hz0 hz1 hz2 rfl (by decide) _ _ _ rfl (hown.alloc _) ⟨wr.heap.size, 0, none⟩ 1 1 [b8v (eraF f.b0 m k)] rfl rfl ?c1 ?c2 ?c3 ?c4 ?c5 ?_)
          case c1 => rw [He.out]; first | exact cell_one_new _ _ _ | exact fun _ _ h => h
          case c2 => simp [Value.oneCell', b8v]
          case c3 => unfold maxLen; omega
          case c4 => omega
          case c5 => have := xw.lt; simp; omega
          intro v' w1 hown' hgrow _
          have hne : ∀ j, (_ : Value).ownBlock = some j → cw + 1 ≤ j := fun j e => (hown.lt j e).1
          have xf' := (xf.alloc (.cells #[.int .u8 (f.b0[k].toNat : Int)] 5)).grown hgrow (fun j e => by have := hne j e; omega)
          have xo' := (xo.alloc (.cells #[.int .u8 (f.b0[k].toNat : Int)] 5)).grown hgrow (fun j e => by have := hne j e; omega)
          have xr' := (xr.alloc (.cells #[.int .u8 (f.b0[k].toNat : Int)] 5)).grown hgrow (fun j e => by have := hne j e; omega)
          have xw' := (xw.alloc (.cells #[.int .u8 (f.b0[k].toNat : Int)] 5)).grown hgrow (fun j e => by have := hne j e; omega)
          have hB' : Below W.heap.size W w1 := (hB.alloc hB.size _).grown hgrow (by have := hB.size; simp; omega) (fun j e => by have := hne j e; omega)
          have H3 := Lib.hid (show w1.ownsRow (cw + 1) 5 1 v' (k + 1) ((upto (eraF f.b0 m) (k + 1)).map b8v) from by rw [upto_succ, List.map_append]; exact hown')
          clear hown' hown hgrow hB hne xf xo xr xw He
          go_wp2
          go_roundw
          case rel => exact ⟨k + 1, by omega, by go_num, H3.out, xf', xo', xr', xw', hB'⟩
          case measure => simp [intOf]; omega
      · have hlt2 : (k : Int) < (f.b0.size : Int) := by omega
        have hin2 : ¬ (k : Int) < (m.size : Int) := by omega
        have He := Lib.hid (show b8v (eraF f.b0 m k) = Value.int .u8 (f.b0[k].toNat : Int) from by rw [eraF_out hlt hin]; rfl)
        go_wp2_with (at_builtin; refine wpList_append_own _ rfl _ _ 83 rfl (cw + 1) 5 i0 (.int .u8 0) 1 1 Tryz.underlying83 hi hz0 hz1 hz2 rfl (by decide) _ _ _ rfl (hown.alloc _) ⟨wr.heap.size, 0, none⟩ 1 1 [b8v (eraF f.b0 m k)] rfl rfl ?c1 ?c2 ?c3 ?c4 ?c5 ?_)
        case c1 => rw [He.out]; first | exact cell_one_new _ _ _ | exact fun _ _ h => h
        case c2 => simp [Value.oneCell', b8v]
        case c3 => unfold maxLen; omega
        case c4 => omega
        case c5 => have := xw.lt; simp; omega
        intro v' w1 hown' hgrow _
        have hne : ∀ j, (_ : Value).ownBlock = some j → cw + 1 ≤ j := fun j e => (hown.lt j e).1
        have xf' := (xf.alloc (.cells #[.int .u8 (f.b0[k].toNat : Int)] 5)).grown hgrow (fun j e => by have := hne j e; omega)
        have xo' := (xo.alloc (.cells #[.int .u8 (f.b0[k].toNat : Int)] 5)).grown hgrow (fun j e => by have := hne j e; omega)
        have xr' := (xr.alloc (.cells #[.int .u8 (f.b0[k].toNat : Int)] 5)).grown hgrow (fun j e => by have := hne j e; omega)
        have xw' := (xw.alloc (.cells #[.int .u8 (f.b0[k].toNat : Int)] 5)).grown hgrow (fun j e => by have := hne j e; omega)
        have hB' : Below W.heap.size W w1 := (hB.alloc hB.size _).grown hgrow (by have := hB.size; simp; omega) (fun j e => by have := hne j e; omega)
        have H3 := Lib.hid (show w1.ownsRow (cw + 1) 5 1 v' (k + 1) ((upto (eraF f.b0 m) (k + 1)).map b8v) from by rw [upto_succ, List.map_append]; exact hown')
        clear hown' hown hgrow hB hne xf xo xr xw He
        go_wp2
        go_roundw
        case rel => exact ⟨k + 1, by omega, by go_num, H3.out, xf', xo', xr', xw', hB'⟩
        case measure => simp [intOf]; omega
    · obtain rfl : k = f.b0.size := by omega
      have hcv := owns_string (P := Tryz.prog) (src := 83) (dst := 9) Tryz.underlying83 Tryz.underlying5 Tryz.underlying9 hown
      clear hown
      have cxf := xf.f5
      have cxo := xo.f4
      have cxr := xr.f5
      have cxw := xw.f5
      go_wp2
      clear cxf cxo cxr cxw
      replace xf := (xf.other ne_xw_xf 0 (.string (bs (upto (eraF f.b0 m) f.b0.size))))
      replace xo := (xo.other ne_xw_xo 0 (.string (bs (upto (eraF f.b0 m) f.b0.size))))
      replace xr := (xr.other ne_xw_xr 0 (.string (bs (upto (eraF f.b0 m) f.b0.size))))
      replace xw : Box 37 (wr.setCell ⟨cw, 0, none⟩ (.string (bs (upto (eraF f.b0 m) f.b0.size)))) (cw) [.string (bs (upto (eraF f.b0 m) f.b0.size)), .string f.b1, .int .i64 (f.e0 + 1), .int .i64 f.e1, .int .i64 f.lim] := (xw.set 0 (.string (bs (upto (eraF f.b0 m) f.b0.size))))
      replace hB : Below W.heap.size W (wr.setCell ⟨cw, 0, none⟩ (.string (bs (upto (eraF f.b0 m) f.b0.size)))) := (hB.setCell le_xw _)
      generalize (wr.setCell ⟨cw, 0, none⟩ (.string (bs (upto (eraF f.b0 m) f.b0.size)))) = V2 at *
      have cxf := xf.f5
      have cxo := xo.f4
      have cxr := xr.f5
      have cxw := xw.f5
      clear cxf cxo cxr cxw
      replace xf : Box 37 (((((V2.setCell ⟨W.heap.size + 1 + 1, 0, none⟩ (.string (bs (upto (eraF f.b0 m) f.b0.size)))).setCell ⟨W.heap.size + 1 + 1, 1, none⟩ (.string f.b1)).setCell ⟨W.heap.size + 1 + 1, 2, none⟩ (.int .i64 (f.e0 + 1))).setCell ⟨W.heap.size + 1 + 1, 3, none⟩ (.int .i64 f.e1)).setCell ⟨W.heap.size + 1 + 1, 4, none⟩ (.int .i64 f.lim)) (W.heap.size) [.string f.b0, .string f.b1, .int .i64 f.e0, .int .i64 f.e1, .int .i64 f.lim] := (((((xf.other (by omega) 0 (.string (bs (upto (eraF f.b0 m) f.b0.size)))).other (by omega) 1 (.string f.b1)).other (by omega) 2 (.int .i64 (f.e0 + 1))).other (by omega) 3 (.int .i64 f.e1)).other (by omega) 4 (.int .i64 f.lim))
      replace xo : Box 64 (((((V2.setCell ⟨W.heap.size + 1 + 1, 0, none⟩ (.string (bs (upto (eraF f.b0 m) f.b0.size)))).setCell ⟨W.heap.size + 1 + 1, 1, none⟩ (.string f.b1)).setCell ⟨W.heap.size + 1 + 1, 2, none⟩ (.int .i64 (f.e0 + 1))).setCell ⟨W.heap.size + 1 + 1, 3, none⟩ (.int .i64 f.e1)).setCell ⟨W.heap.size + 1 + 1, 4, none⟩ (.int .i64 f.lim)) (W.heap.size + 1) [.int .i64 2, .int .i64 0, .int .i64 q, .string d] := (((((xo.other (by omega) 0 (.string (bs (upto (eraF f.b0 m) f.b0.size)))).other (by omega) 1 (.string f.b1)).other (by omega) 2 (.int .i64 (f.e0 + 1))).other (by omega) 3 (.int .i64 f.e1)).other (by omega) 4 (.int .i64 f.lim))
      replace xw := (((((xw.other (Ne.symm ne_xw_xr) 0 (.string (bs (upto (eraF f.b0 m) f.b0.size)))).other (Ne.symm ne_xw_xr) 1 (.string f.b1)).other (Ne.symm ne_xw_xr) 2 (.int .i64 (f.e0 + 1))).other (Ne.symm ne_xw_xr) 3 (.int .i64 f.e1)).other (Ne.symm ne_xw_xr) 4 (.int .i64 f.lim))
      replace xr : Box 37 (((((V2.setCell ⟨W.heap.size + 1 + 1, 0, none⟩ (.string (bs (upto (eraF f.b0 m) f.b0.size)))).setCell ⟨W.heap.size + 1 + 1, 1, none⟩ (.string f.b1)).setCell ⟨W.heap.size + 1 + 1, 2, none⟩ (.int .i64 (f.e0 + 1))).setCell ⟨W.heap.size + 1 + 1, 3, none⟩ (.int .i64 f.e1)).setCell ⟨W.heap.size + 1 + 1, 4, none⟩ (.int .i64 f.lim)) (W.heap.size + 1 + 1) [.string (bs (upto (eraF f.b0 m) f.b0.size)), .string f.b1, .int .i64 (f.e0 + 1), .int .i64 f.e1, .int .i64 f.lim] := (((((xr.set 0 (.string (bs (upto (eraF f.b0 m) f.b0.size)))).set 1 (.string f.b1)).set 2 (.int .i64 (f.e0 + 1))).set 3 (.int .i64 f.e1)).set 4 (.int .i64 f.lim))
      replace hB : Below W.heap.size W (((((V2.setCell ⟨W.heap.size + 1 + 1, 0, none⟩ (.string (bs (upto (eraF f.b0 m) f.b0.size)))).setCell ⟨W.heap.size + 1 + 1, 1, none⟩ (.string f.b1)).setCell ⟨W.heap.size + 1 + 1, 2, none⟩ (.int .i64 (f.e0 + 1))).setCell ⟨W.heap.size + 1 + 1, 3, none⟩ (.int .i64 f.e1)).setCell ⟨W.heap.size + 1 + 1, 4, none⟩ (.int .i64 f.lim)) := (((((hB.setCell le_xr _).setCell le_xr _).setCell le_xr _).setCell le_xr _).setCell le_xr _)
      generalize (((((V2.setCell ⟨W.heap.size + 1 + 1, 0, none⟩ (.string (bs (upto (eraF f.b0 m) f.b0.size)))).setCell ⟨W.heap.size + 1 + 1, 1, none⟩ (.string f.b1)).setCell ⟨W.heap.size + 1 + 1, 2, none⟩ (.int .i64 (f.e0 + 1))).setCell ⟨W.heap.size + 1 + 1, 3, none⟩ (.int .i64 f.e1)).setCell ⟨W.heap.size + 1 + 1, 4, none⟩ (.int .i64 f.lim)) = V3 at *
      have cxf := xf.f5
      have cxo := xo.f4
      have cxr := xr.f5
      have cxw := xw.f5
      exact bodyPost_ret (v := .tuple #[.agg #[.string (bs (upto (eraF f.b0 m) f.b0.size)), .string f.b1, .int .i64 (f.e0 + 1), .int .i64 f.e1, .int .i64 f.lim], .int .i64 0]) (by simp [results, Tryz.results22, go_sem, cxr]) rfl ⟨rfl, hB⟩

set_option maxRecDepth 100000 in
set_option maxHeartbeats 4000000 in
theorem refTear2_1 (f : Fl) (q : Int) (d m : ByteArray) (W : World) (hf : f.fit) (hd : d.size ≤ maxLen) (hq : -9223372036854775808 ≤ q ∧ q ≤ 9223372036854775807) (hm : m.size ≤ maxLen) (he : eraseErr f 1 = 0) :
    Calls Tryz.prog 22 #[.agg #[.string f.b0, .string f.b1, .int .i64 f.e0, .int .i64 f.e1, .int .i64 f.lim], .agg #[.int .i64 2, .int .i64 1, .int .i64 q, .string d], .string m] W fun e W' => e = .returned (.tuple #[.agg #[.string f.b0, .string (eraT f.b1 m), .int .i64 f.e0, .int .i64 (f.e1 + 1), .int .i64 f.lim], .int .i64 0]) ∧ Below W.heap.size W W' := by
  obtain ⟨i0, hi, hz0, hz1, hz2⟩ := info_parts Tryz.info_u8
  have hs : f.b1.size ≤ 140737488351232 := hf.z1
  have hg : eraseF f 1 = ⟨f.b0, blankT f.b1.size, f.e0, f.e1 + 1, f.lim⟩ := by rw [eraseF_banks he]; exact if_neg (by decide)
  have TD := Lib.hid (fun (W : World) => (show Calls Tryz.prog 23 #[.agg #[.string f.b0, .string f.b1, .int .i64 f.e0, .int .i64 f.e1, .int .i64 f.lim], .agg #[.int .i64 2, .int .i64 1, .int .i64 q, .string d]] W fun e W' => e = .returned (.tuple #[.agg #[.string f.b0, .string (blankT f.b1.size), .int .i64 f.e0, .int .i64 (f.e1 + 1), .int .i64 f.lim], .int .i64 0]) ∧ Below W.heap.size W W' from by have h := refDo2 f 1 q d W hf hd hq; rwa [he, hg] at h))
  rw [eraT_is]
  clear he hg
  unfold maxLen at hm
  have hB : Below W.heap.size W (((W.alloc (.cells #[.string f.b0, .string f.b1, .int .i64 f.e0, .int .i64 f.e1, .int .i64 f.lim] 37)).alloc (.cells #[.int .i64 2, .int .i64 1, .int .i64 q, .string d] 64)).alloc (.cells #[.string ⟨#[]⟩, .string ⟨#[]⟩, .int .i64 0, .int .i64 0, .int .i64 0] 37)) := ((((Below.refl _ _).alloc (Nat.le_refl _) _).alloc (by simp) _).alloc (by simp; omega) _)
  have xf := (((Box.new 37 W [.string f.b0, .string f.b1, .int .i64 f.e0, .int .i64 f.e1, .int .i64 f.lim]).alloc (.cells #[.int .i64 2, .int .i64 1, .int .i64 q, .string d] 64)).alloc (.cells #[.string ⟨#[]⟩, .string ⟨#[]⟩, .int .i64 0, .int .i64 0, .int .i64 0] 37))
  have xo : Box 64 (((W.alloc (.cells #[.string f.b0, .string f.b1, .int .i64 f.e0, .int .i64 f.e1, .int .i64 f.lim] 37)).alloc (.cells #[.int .i64 2, .int .i64 1, .int .i64 q, .string d] 64)).alloc (.cells #[.string ⟨#[]⟩, .string ⟨#[]⟩, .int .i64 0, .int .i64 0, .int .i64 0] 37)) (W.heap.size + 1) [.int .i64 2, .int .i64 1, .int .i64 q, .string d] := by have h := ((Box.new 64 (W.alloc (.cells #[.string f.b0, .string f.b1, .int .i64 f.e0, .int .i64 f.e1, .int .i64 f.lim] 37)) [.int .i64 2, .int .i64 1, .int .i64 q, .string d]).alloc (.cells #[.string ⟨#[]⟩, .string ⟨#[]⟩, .int .i64 0, .int .i64 0, .int .i64 0] 37)); rwa [World.size_alloc] at h
  have le_xo : W.heap.size ≤ W.heap.size + 1 := by omega
  have xr : Box 37 (((W.alloc (.cells #[.string f.b0, .string f.b1, .int .i64 f.e0, .int .i64 f.e1, .int .i64 f.lim] 37)).alloc (.cells #[.int .i64 2, .int .i64 1, .int .i64 q, .string d] 64)).alloc (.cells #[.string ⟨#[]⟩, .string ⟨#[]⟩, .int .i64 0, .int .i64 0, .int .i64 0] 37)) (W.heap.size + 1 + 1) [.string ⟨#[]⟩, .string ⟨#[]⟩, .int .i64 0, .int .i64 0, .int .i64 0] := by have h := (Box.new 37 ((W.alloc (.cells #[.string f.b0, .string f.b1, .int .i64 f.e0, .int .i64 f.e1, .int .i64 f.lim] 37)).alloc (.cells #[.int .i64 2, .int .i64 1, .int .i64 q, .string d] 64)) [.string ⟨#[]⟩, .string ⟨#[]⟩, .int .i64 0, .int .i64 0, .int .i64 0]); rwa [World.size_alloc, World.size_alloc] at h
  have le_xr : W.heap.size ≤ W.heap.size + 1 + 1 := by omega
  go_enter Tryz.func22, Tryz.ntmps22
  go_wp2_with fail
  refine (TD.out _).mono ?_
  rintro e V1 ⟨rfl, hk⟩
  replace hB := below_seq hB hk
  replace xf := xf.seq hk
  replace xo := xo.seq hk
  replace xr := xr.seq hk
  clear hk
  have hcw := xr.lt
  have xw := Box.new 37 V1 [.string f.b0, .string (blankT f.b1.size), .int .i64 f.e0, .int .i64 (f.e1 + 1), .int .i64 f.lim]
  have ne_xw_xf : V1.heap.size ≠ W.heap.size := Nat.ne_of_gt xf.lt
  have ne_xw_xo : V1.heap.size ≠ W.heap.size + 1 := Nat.ne_of_gt xo.lt
  have ne_xw_xr : V1.heap.size ≠ W.heap.size + 1 + 1 := Nat.ne_of_gt xr.lt
  have le_xw : W.heap.size ≤ V1.heap.size := hB.size
  replace xf := xf.alloc (.cells #[.string f.b0, .string (blankT f.b1.size), .int .i64 f.e0, .int .i64 (f.e1 + 1), .int .i64 f.lim] 37)
  replace xo := xo.alloc (.cells #[.string f.b0, .string (blankT f.b1.size), .int .i64 f.e0, .int .i64 (f.e1 + 1), .int .i64 f.lim] 37)
  replace xr := xr.alloc (.cells #[.string f.b0, .string (blankT f.b1.size), .int .i64 f.e0, .int .i64 (f.e1 + 1), .int .i64 f.lim] 37)
  replace hB := hB.alloc hB.size (.cells #[.string f.b0, .string (blankT f.b1.size), .int .i64 f.e0, .int .i64 (f.e1 + 1), .int .i64 f.lim] 37)
  have cxf := xf.f5
  have cxo := xo.f4
  have cxr := xr.f5
  have cxw := xw.f5
  go_wp2
  clear cxf cxo cxr cxw
  have hown := World.ownsRow_made (base := V1.heap.size + 1) (e := 5) (size := 1) (V1.alloc (.cells #[.string f.b0, .string (blankT f.b1.size), .int .i64 f.e0, .int .i64 (f.e1 + 1), .int .i64 f.lim] 37)) #[] 0 (by simp) (by simp) rfl
  rw [World.size_alloc] at hown
  replace xf := xf.alloc (.cells #[] 5)
  replace xo := xo.alloc (.cells #[] 5)
  replace xr := xr.alloc (.cells #[] 5)
  replace xw := xw.alloc (.cells #[] 5)
  replace hB := hB.alloc hB.size (.cells #[] 5)
  generalize V1.heap.size = cw at *
  generalize (V1.alloc (.cells #[.string f.b0, .string (blankT f.b1.size), .int .i64 f.e0, .int .i64 (f.e1 + 1), .int .i64 f.lim] 37)).alloc (.cells #[] 5) = V2 at *
  go_loopw [12, 13] (fun v i w => ∃ k : Nat, k ≤ f.b1.size ∧ i = .int .i64 k ∧ w.ownsRow (cw + 1) 5 1 v k ((upto (eraF f.b1 m) k).map b8v) ∧ Box 37 w (W.heap.size) [.string f.b0, .string f.b1, .int .i64 f.e0, .int .i64 f.e1, .int .i64 f.lim] ∧ Box 64 w (W.heap.size + 1) [.int .i64 2, .int .i64 1, .int .i64 q, .string d] ∧ Box 37 w (W.heap.size + 1 + 1) [.string ⟨#[]⟩, .string ⟨#[]⟩, .int .i64 0, .int .i64 0, .int .i64 0] ∧ Box 37 w (cw) [.string f.b0, .string (blankT f.b1.size), .int .i64 f.e0, .int .i64 (f.e1 + 1), .int .i64 f.lim] ∧ Below W.heap.size W w)
    (fun _ i _ => f.b1.size - (intOf i).toNat)
  case atStart => exact ⟨0, Nat.zero_le _, rfl, hown, xf, xo, xr, xw, hB⟩
  case round =>
    clear hown xf xo xr xw hB
    obtain ⟨k, hk, rfl, hown, xf, xo, xr, xw, hB⟩ := hrel
    by_cases hlt : k < f.b1.size
    · by_cases hin : k < m.size
      · have hin2 : (k : Int) < (m.size : Int) := by omega
        by_cases hodd : m[k].toNat % 2 = 1
        · have hlt2 : (k : Int) < (f.b1.size : Int) := by omega
          have n1 : (((m[k].toNat : Int) % 2) == 1) = true := by rw [beq_iff_eq]; omega
          have He := Lib.hid (show b8v (eraF f.b1 m k) = Value.int .u8 255 from by rw [eraF_odd hin hodd]; rfl)
          go_wp2_with (at_builtin; refine wpList_append_own _ rfl _ _ 83 rfl (cw + 1) 5 i0 (.int .u8 0) 1 1 Tryz.underlying83 hi hz0 hz1 hz2 rfl (by decide) _ _ _ rfl (hown.alloc _) ⟨wr.heap.size, 0, none⟩ 1 1 [b8v (eraF f.b1 m k)] rfl rfl ?c1 ?c2 ?c3 ?c4 ?c5 ?_)
          case c1 => rw [He.out]; first | exact cell_one_new _ _ _ | exact fun _ _ h => h
          case c2 => simp [Value.oneCell', b8v]
          case c3 => unfold maxLen; omega
          case c4 => omega
          case c5 => have := xw.lt; simp; omega
          intro v' w1 hown' hgrow _
          have hne : ∀ j, (_ : Value).ownBlock = some j → cw + 1 ≤ j := fun j e => (hown.lt j e).1
          have xf' := (xf.alloc (.cells #[.int .u8 255] 5)).grown hgrow (fun j e => by have := hne j e; omega)
          have xo' := (xo.alloc (.cells #[.int .u8 255] 5)).grown hgrow (fun j e => by have := hne j e; omega)
          have xr' := (xr.alloc (.cells #[.int .u8 255] 5)).grown hgrow (fun j e => by have := hne j e; omega)
          have xw' := (xw.alloc (.cells #[.int .u8 255] 5)).grown hgrow (fun j e => by have := hne j e; omega)
          have hB' : Below W.heap.size W w1 := (hB.alloc hB.size _).grown hgrow (by have := hB.size; simp; omega) (fun j e => by have := hne j e; omega)
          have H3 := Lib.hid (show w1.ownsRow (cw + 1) 5 1 v' (k + 1) ((upto (eraF f.b1 m) (k + 1)).map b8v) from by rw [upto_succ, List.map_append]; exact hown')
          clear hown' hown hgrow hB hne xf xo xr xw He
          go_wp2
          go_roundw
          case rel => exact ⟨k + 1, by omega, by go_num, H3.out, xf', xo', xr', xw', hB'⟩
          case measure => simp [intOf]; omega
        · have hlt2 : (k : Int) < (f.b1.size : Int) := by omega
          have n1 : (((m[k].toNat : Int) % 2) == 1) = false := by rw [beq_eq_false_iff_ne]; omega
          have He := Lib.hid (show b8v (eraF f.b1 m k) = Value.int .u8 (f.b1[k].toNat : Int) from by rw [eraF_even hlt hin hodd]; rfl)
          go_wp2_with (at_builtin; refine wpList_append_own _ rfl _ _ 83 rfl (cw + 1) 5 i0 (.int .u8 0) 1 1 Tryz.underlying83 hi hz0 hz1 hz2 rfl (by decide) _ _ _ rfl (hown.alloc _) ⟨wr.heap.size, 0, none⟩ 1 1 [b8v (eraF f.b1 m k)] rfl rfl ?c1 ?c2 ?c3 ?c4 ?c5 ?_)
          case c1 => rw [He.out]; first | exact cell_one_new _ _ _ | exact fun _ _ h => h
          case c2 => simp [Value.oneCell', b8v]
          case c3 => unfold maxLen; omega
          case c4 => omega
          case c5 => have := xw.lt; simp; omega
          intro v' w1 hown' hgrow _
          have hne : ∀ j, (_ : Value).ownBlock = some j → cw + 1 ≤ j := fun j e => (hown.lt j e).1
          have xf' := (xf.alloc (.cells #[.int .u8 (f.b1[k].toNat : Int)] 5)).grown hgrow (fun j e => by have := hne j e; omega)
          have xo' := (xo.alloc (.cells #[.int .u8 (f.b1[k].toNat : Int)] 5)).grown hgrow (fun j e => by have := hne j e; omega)
          have xr' := (xr.alloc (.cells #[.int .u8 (f.b1[k].toNat : Int)] 5)).grown hgrow (fun j e => by have := hne j e; omega)
          have xw' := (xw.alloc (.cells #[.int .u8 (f.b1[k].toNat : Int)] 5)).grown hgrow (fun j e => by have := hne j e; omega)
          have hB' : Below W.heap.size W w1 := (hB.alloc hB.size _).grown hgrow (by have := hB.size; simp; omega) (fun j e => by have := hne j e; omega)
          have H3 := Lib.hid (show w1.ownsRow (cw + 1) 5 1 v' (k + 1) ((upto (eraF f.b1 m) (k + 1)).map b8v) from by rw [upto_succ, List.map_append]; exact hown')
          clear hown' hown hgrow hB hne xf xo xr xw He
          go_wp2
          go_roundw
          case rel => exact ⟨k + 1, by omega, by go_num, H3.out, xf', xo', xr', xw', hB'⟩
          case measure => simp [intOf]; omega
      · have hlt2 : (k : Int) < (f.b1.size : Int) := by omega
        have hin2 : ¬ (k : Int) < (m.size : Int) := by omega
        have He := Lib.hid (show b8v (eraF f.b1 m k) = Value.int .u8 (f.b1[k].toNat : Int) from by rw [eraF_out hlt hin]; rfl)
        go_wp2_with (at_builtin; refine wpList_append_own _ rfl _ _ 83 rfl (cw + 1) 5 i0 (.int .u8 0) 1 1 Tryz.underlying83 hi hz0 hz1 hz2 rfl (by decide) _ _ _ rfl (hown.alloc _) ⟨wr.heap.size, 0, none⟩ 1 1 [b8v (eraF f.b1 m k)] rfl rfl ?c1 ?c2 ?c3 ?c4 ?c5 ?_)
        case c1 => rw [He.out]; first | exact cell_one_new _ _ _ | exact fun _ _ h => h
        case c2 => simp [Value.oneCell', b8v]
        case c3 => unfold maxLen; omega
        case c4 => omega
        case c5 => have := xw.lt; simp; omega
        intro v' w1 hown' hgrow _
        have hne : ∀ j, (_ : Value).ownBlock = some j → cw + 1 ≤ j := fun j e => (hown.lt j e).1
        have xf' := (xf.alloc (.cells #[.int .u8 (f.b1[k].toNat : Int)] 5)).grown hgrow (fun j e => by have := hne j e; omega)
        have xo' := (xo.alloc (.cells #[.int .u8 (f.b1[k].toNat : Int)] 5)).grown hgrow (fun j e => by have := hne j e; omega)
        have xr' := (xr.alloc (.cells #[.int .u8 (f.b1[k].toNat : Int)] 5)).grown hgrow (fun j e => by have := hne j e; omega)
        have xw' := (xw.alloc (.cells #[.int .u8 (f.b1[k].toNat : Int)] 5)).grown hgrow (fun j e => by have := hne j e; omega)
        have hB' : Below W.heap.size W w1 := (hB.alloc hB.size _).grown hgrow (by have := hB.size; simp; omega) (fun j e => by have := hne j e; omega)
        have H3 := Lib.hid (show w1.ownsRow (cw + 1) 5 1 v' (k + 1) ((upto (eraF f.b1 m) (k + 1)).map b8v) from by rw [upto_succ, List.map_append]; exact hown')
        clear hown' hown hgrow hB hne xf xo xr xw He
        go_wp2
        go_roundw
        case rel => exact ⟨k + 1, by omega, by go_num, H3.out, xf', xo', xr', xw', hB'⟩
        case measure => simp [intOf]; omega
    · obtain rfl : k = f.b1.size := by omega
      have hcv := owns_string (P := Tryz.prog) (src := 83) (dst := 9) Tryz.underlying83 Tryz.underlying5 Tryz.underlying9 hown
      clear hown
      have cxf := xf.f5
      have cxo := xo.f4
      have cxr := xr.f5
      have cxw := xw.f5
      go_wp2
      clear cxf cxo cxr cxw
      replace xf := (xf.other ne_xw_xf 1 (.string (bs (upto (eraF f.b1 m) f.b1.size))))
      replace xo := (xo.other ne_xw_xo 1 (.string (bs (upto (eraF f.b1 m) f.b1.size))))
      replace xr := (xr.other ne_xw_xr 1 (.string (bs (upto (eraF f.b1 m) f.b1.size))))
      replace xw : Box 37 (wr.setCell ⟨cw, 1, none⟩ (.string (bs (upto (eraF f.b1 m) f.b1.size)))) (cw) [.string f.b0, .string (bs (upto (eraF f.b1 m) f.b1.size)), .int .i64 f.e0, .int .i64 (f.e1 + 1), .int .i64 f.lim] := (xw.set 1 (.string (bs (upto (eraF f.b1 m) f.b1.size))))
      replace hB : Below W.heap.size W (wr.setCell ⟨cw, 1, none⟩ (.string (bs (upto (eraF f.b1 m) f.b1.size)))) := (hB.setCell le_xw _)
      generalize (wr.setCell ⟨cw, 1, none⟩ (.string (bs (upto (eraF f.b1 m) f.b1.size)))) = V2 at *
      have cxf := xf.f5
      have cxo := xo.f4
      have cxr := xr.f5
      have cxw := xw.f5
      clear cxf cxo cxr cxw
      replace xf : Box 37 (((((V2.setCell ⟨W.heap.size + 1 + 1, 0, none⟩ (.string f.b0)).setCell ⟨W.heap.size + 1 + 1, 1, none⟩ (.string (bs (upto (eraF f.b1 m) f.b1.size)))).setCell ⟨W.heap.size + 1 + 1, 2, none⟩ (.int .i64 f.e0)).setCell ⟨W.heap.size + 1 + 1, 3, none⟩ (.int .i64 (f.e1 + 1))).setCell ⟨W.heap.size + 1 + 1, 4, none⟩ (.int .i64 f.lim)) (W.heap.size) [.string f.b0, .string f.b1, .int .i64 f.e0, .int .i64 f.e1, .int .i64 f.lim] := (((((xf.other (by omega) 0 (.string f.b0)).other (by omega) 1 (.string (bs (upto (eraF f.b1 m) f.b1.size)))).other (by omega) 2 (.int .i64 f.e0)).other (by omega) 3 (.int .i64 (f.e1 + 1))).other (by omega) 4 (.int .i64 f.lim))
      replace xo : Box 64 (((((V2.setCell ⟨W.heap.size + 1 + 1, 0, none⟩ (.string f.b0)).setCell ⟨W.heap.size + 1 + 1, 1, none⟩ (.string (bs (upto (eraF f.b1 m) f.b1.size)))).setCell ⟨W.heap.size + 1 + 1, 2, none⟩ (.int .i64 f.e0)).setCell ⟨W.heap.size + 1 + 1, 3, none⟩ (.int .i64 (f.e1 + 1))).setCell ⟨W.heap.size + 1 + 1, 4, none⟩ (.int .i64 f.lim)) (W.heap.size + 1) [.int .i64 2, .int .i64 1, .int .i64 q, .string d] := (((((xo.other (by omega) 0 (.string f.b0)).other (by omega) 1 (.string (bs (upto (eraF f.b1 m) f.b1.size)))).other (by omega) 2 (.int .i64 f.e0)).other (by omega) 3 (.int .i64 (f.e1 + 1))).other (by omega) 4 (.int .i64 f.lim))
      replace xw := (((((xw.other (Ne.symm ne_xw_xr) 0 (.string f.b0)).other (Ne.symm ne_xw_xr) 1 (.string (bs (upto (eraF f.b1 m) f.b1.size)))).other (Ne.symm ne_xw_xr) 2 (.int .i64 f.e0)).other (Ne.symm ne_xw_xr) 3 (.int .i64 (f.e1 + 1))).other (Ne.symm ne_xw_xr) 4 (.int .i64 f.lim))
      replace xr : Box 37 (((((V2.setCell ⟨W.heap.size + 1 + 1, 0, none⟩ (.string f.b0)).setCell ⟨W.heap.size + 1 + 1, 1, none⟩ (.string (bs (upto (eraF f.b1 m) f.b1.size)))).setCell ⟨W.heap.size + 1 + 1, 2, none⟩ (.int .i64 f.e0)).setCell ⟨W.heap.size + 1 + 1, 3, none⟩ (.int .i64 (f.e1 + 1))).setCell ⟨W.heap.size + 1 + 1, 4, none⟩ (.int .i64 f.lim)) (W.heap.size + 1 + 1) [.string f.b0, .string (bs (upto (eraF f.b1 m) f.b1.size)), .int .i64 f.e0, .int .i64 (f.e1 + 1), .int .i64 f.lim] := (((((xr.set 0 (.string f.b0)).set 1 (.string (bs (upto (eraF f.b1 m) f.b1.size)))).set 2 (.int .i64 f.e0)).set 3 (.int .i64 (f.e1 + 1))).set 4 (.int .i64 f.lim))
      replace hB : Below W.heap.size W (((((V2.setCell ⟨W.heap.size + 1 + 1, 0, none⟩ (.string f.b0)).setCell ⟨W.heap.size + 1 + 1, 1, none⟩ (.string (bs (upto (eraF f.b1 m) f.b1.size)))).setCell ⟨W.heap.size + 1 + 1, 2, none⟩ (.int .i64 f.e0)).setCell ⟨W.heap.size + 1 + 1, 3, none⟩ (.int .i64 (f.e1 + 1))).setCell ⟨W.heap.size + 1 + 1, 4, none⟩ (.int .i64 f.lim)) := (((((hB.setCell le_xr _).setCell le_xr _).setCell le_xr _).setCell le_xr _).setCell le_xr _)
      generalize (((((V2.setCell ⟨W.heap.size + 1 + 1, 0, none⟩ (.string f.b0)).setCell ⟨W.heap.size + 1 + 1, 1, none⟩ (.string (bs (upto (eraF f.b1 m) f.b1.size)))).setCell ⟨W.heap.size + 1 + 1, 2, none⟩ (.int .i64 f.e0)).setCell ⟨W.heap.size + 1 + 1, 3, none⟩ (.int .i64 (f.e1 + 1))).setCell ⟨W.heap.size + 1 + 1, 4, none⟩ (.int .i64 f.lim)) = V3 at *
      have cxf := xf.f5
      have cxo := xo.f4
      have cxr := xr.f5
      have cxw := xw.f5
      exact bodyPost_ret (v := .tuple #[.agg #[.string f.b0, .string (bs (upto (eraF f.b1 m) f.b1.size)), .int .i64 f.e0, .int .i64 (f.e1 + 1), .int .i64 f.lim], .int .i64 0]) (by simp [results, Tryz.results22, go_sem, cxr]) rfl ⟨rfl, hB⟩

theorem ref04Tear (f : Fl) (o : PwOp) (m : ByteArray) (W : World) (hf : f.fit) (ho : o.ok) (hm : m.size ≤ maxLen) :
    Calls Tryz.prog 22 #[.agg #[.string f.b0, .string f.b1, .int .i64 f.e0, .int .i64 f.e1, .int .i64 f.lim], .agg #[.int .i64 o.kind, .int .i64 o.bank, .int .i64 o.q, .string o.d], .string m] W fun e W' => e = .returned (.tuple #[.agg #[.string (tearF f o m).b0, .string (tearF f o m).b1, .int .i64 (tearF f o m).e0, .int .i64 (tearF f o m).e1, .int .i64 (tearF f o m).lim], .int .i64 (doErr f o)]) ∧ Below W.heap.size W W' := by
  by_cases he : doErr f o = 0
  · obtain ⟨hb, hk⟩ := doErr_bank he
    have hq := ho.nq
    have hd := ho.sd
    obtain ⟨k, b, q, d⟩ := o
    dsimp only at hb hk hq hd ⊢
    rcases hk with rfl | rfl
    · rw [tearF_prog he rfl, he]
      dsimp only
      have hp : progErr f b q d = 0 := (doErr_prog (o := (⟨1, b, q, d⟩ : PwOp)) rfl).symm.trans he
      obtain ⟨hq0, hq1⟩ := prog_bounds hp
      obtain ⟨p, rfl⟩ := Int.eq_ofNat_of_zero_le hq0
      rw [Int.toNat_natCast] at hq1 ⊢
      rcases hb with rfl | rfl
      · exact refTear1_0 f p d m W hf hd hm hp hq1
      · exact refTear1_1 f p d m W hf hd hm hp hq1
    · rw [tearF_erase he rfl, he]
      dsimp only
      have hp : eraseErr f b = 0 := (doErr_erase (o := (⟨2, b, q, d⟩ : PwOp)) rfl).symm.trans he
      rcases hb with rfl | rfl
      · rw [eraseF_banks hp]; exact refTear2_0 f q d m W hf hd hq hm hp
      · rw [eraseF_banks hp]; exact refTear2_1 f q d m W hf hd hq hm hp
  · rw [tearF_err he]
    exact refTear0 f o m W hf ho he
end Go.Proofs.YtiacdcnpkfpjaaaGreat

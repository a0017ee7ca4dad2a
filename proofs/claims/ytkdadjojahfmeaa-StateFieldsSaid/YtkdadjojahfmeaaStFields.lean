/- Whatever field of a state is turned, it is packed otherwise, if it is legal still (StateFields); no condition. -/
import Derived.Test.YtkdadjojahfmeaaStateLaw
import Derived.Deep.RegionHeld3
import Derived.WalkLawsBesides
import Derived.WalkSpells
import Derived.IntWalk
import Derived.Lib.Hide
import Derived.Test.YtkdadjojahfmeaaBox
import Derived.ProofKit
import Derived.OpenShut
import Derived.ChangeMaps5
import Derived.Test.YtkdadjojahfmeaaInts
namespace Go.Proofs.Ytkdadjojahfmeaa.StateFields
open Go.ChangeShapes Go.WideShapes Go.ChangeAt Go.RowKit Go.ChangeMaps
set_option linter.unusedVariables false
set_option linter.unusedSimpArgs false
set_option maxRecDepth 100000 in
set_option maxHeartbeats 4000000 in
theorem field0 (a1 : Int) (a2 a3 : Bool) (a4 a5 a6 n : Int) (which : UInt8) (L M : Bool) (P Q : Nat) (W : World) (hw : which.toNat % 6 = 0) (TL : ∀ W : World, Gives Try.prog 11 #[.agg #[.int .i64 a1, .bool a2, .bool a3, .int .i64 a4, .int .i64 a5, .int .i64 a6]] W (.bool L)) (TM : ∀ W : World, Gives Try.prog 11 #[.agg #[.int .i64 n, .bool a2, .bool a3, .int .i64 a4, .int .i64 a5, .int .i64 a6]] W (.bool M)) (TP : ∀ W : World, Gives Try.prog 13 #[.agg #[.int .i64 a1, .bool a2, .bool a3, .int .i64 a4, .int .i64 a5, .int .i64 a6]] W (.int .u64 (P : Int))) (TQ : ∀ W : World, Gives Try.prog 13 #[.agg #[.int .i64 n, .bool a2, .bool a3, .int .i64 a4, .int .i64 a5, .int .i64 a6]] W (.int .u64 (Q : Int))) (hpq : L = true → M = true → (P = Q ↔ n = a1)) :
    Gives Try.prog 8 #[.agg #[.int .i64 a1, .bool a2, .bool a3, .int .i64 a4, .int .i64 a5, .int .i64 a6], .int .u8 (which.toNat : Int), .int .i64 n] W (.bool true) := by
  have hw2 : (which.toNat : Int) % 6 = 0 := by omega
  clear hw
  replace TL := Lib.hid TL
  replace TM := Lib.hid TM
  replace TP := Lib.hid TP
  replace TQ := Lib.hid TQ
  cases L
  · skip
    clear hpq
    have hB : Below W.heap.size W ((W.alloc (.cells #[.int .i64 a1, .bool a2, .bool a3, .int .i64 a4, .int .i64 a5, .int .i64 a6] 23)).alloc (.cells #[.int .i64 n, .bool a2, .bool a3, .int .i64 a4, .int .i64 a5, .int .i64 a6] 23)) := (((Below.refl _ _).alloc (Nat.le_refl _) _).alloc (by simp) _)
    have xs := ((Box.new 23 W [.int .i64 a1, .bool a2, .bool a3, .int .i64 a4, .int .i64 a5, .int .i64 a6]).alloc (.cells #[.int .i64 n, .bool a2, .bool a3, .int .i64 a4, .int .i64 a5, .int .i64 a6] 23))
    have xt : Box 23 ((W.alloc (.cells #[.int .i64 a1, .bool a2, .bool a3, .int .i64 a4, .int .i64 a5, .int .i64 a6] 23)).alloc (.cells #[.int .i64 n, .bool a2, .bool a3, .int .i64 a4, .int .i64 a5, .int .i64 a6] 23)) (W.heap.size + 1) [.int .i64 n, .bool a2, .bool a3, .int .i64 a4, .int .i64 a5, .int .i64 a6] := by have h := (Box.new 23 (W.alloc (.cells #[.int .i64 a1, .bool a2, .bool a3, .int .i64 a4, .int .i64 a5, .int .i64 a6] 23)) [.int .i64 n, .bool a2, .bool a3, .int .i64 a4, .int .i64 a5, .int .i64 a6]); rwa [World.size_alloc] at h
    have le_xt : W.heap.size ≤ W.heap.size + 1 := by omega
    have xsC0 := (Box.new 23 W [.int .i64 a1, .bool a2, .bool a3, .int .i64 a4, .int .i64 a5, .int .i64 a6]).cell 0 rfl
    have xsD0 := fun o : Obj => ((Box.new 23 W [.int .i64 a1, .bool a2, .bool a3, .int .i64 a4, .int .i64 a5, .int .i64 a6]).alloc o).cell 0 rfl
    have xsC1 := (Box.new 23 W [.int .i64 a1, .bool a2, .bool a3, .int .i64 a4, .int .i64 a5, .int .i64 a6]).cell 1 rfl
    have xsD1 := fun o : Obj => ((Box.new 23 W [.int .i64 a1, .bool a2, .bool a3, .int .i64 a4, .int .i64 a5, .int .i64 a6]).alloc o).cell 1 rfl
    have xsC2 := (Box.new 23 W [.int .i64 a1, .bool a2, .bool a3, .int .i64 a4, .int .i64 a5, .int .i64 a6]).cell 2 rfl
    have xsD2 := fun o : Obj => ((Box.new 23 W [.int .i64 a1, .bool a2, .bool a3, .int .i64 a4, .int .i64 a5, .int .i64 a6]).alloc o).cell 2 rfl
    have xsC3 := (Box.new 23 W [.int .i64 a1, .bool a2, .bool a3, .int .i64 a4, .int .i64 a5, .int .i64 a6]).cell 3 rfl
    have xsD3 := fun o : Obj => ((Box.new 23 W [.int .i64 a1, .bool a2, .bool a3, .int .i64 a4, .int .i64 a5, .int .i64 a6]).alloc o).cell 3 rfl
    have xsC4 := (Box.new 23 W [.int .i64 a1, .bool a2, .bool a3, .int .i64 a4, .int .i64 a5, .int .i64 a6]).cell 4 rfl
    have xsD4 := fun o : Obj => ((Box.new 23 W [.int .i64 a1, .bool a2, .bool a3, .int .i64 a4, .int .i64 a5, .int .i64 a6]).alloc o).cell 4 rfl
    have xsC5 := (Box.new 23 W [.int .i64 a1, .bool a2, .bool a3, .int .i64 a4, .int .i64 a5, .int .i64 a6]).cell 5 rfl
    have xsD5 := fun o : Obj => ((Box.new 23 W [.int .i64 a1, .bool a2, .bool a3, .int .i64 a4, .int .i64 a5, .int .i64 a6]).alloc o).cell 5 rfl
    go_enter Try.func8, Try.ntmps8
    obtain ⟨xs0, xsz0, xs1, xsz1, xs2, xsz2, xs3, xsz3, xs4, xsz4, xs5, xsz5⟩ := xs.f6
    obtain ⟨xt0, xtz0, xt1, xtz1, xt2, xtz2, xt3, xtz3, xt4, xtz4, xt5, xtz5⟩ := xt.f6
    go_wp2_with fail
    clear hw2 xsC0 xsD0 xsC1 xsD1 xsC2 xsD2 xsC3 xsD3 xsC4 xsD4 xsC5 xsD5
    refine (TL.out _).mono ?_
    rintro e V1 ⟨rfl, hk⟩
    clear xs0 xsz0 xs1 xsz1 xs2 xsz2 xs3 xsz3 xs4 xsz4 xs5 xsz5 xt0 xtz0 xt1 xtz1 xt2 xtz2 xt3 xtz3 xt4 xtz4 xt5 xtz5
    replace hB := below_seq hB hk
    replace xs := xs.seq hk
    replace xt := xt.seq hk
    clear hk
    obtain ⟨xs0, xsz0, xs1, xsz1, xs2, xsz2, xs3, xsz3, xs4, xsz4, xs5, xsz5⟩ := xs.f6
    obtain ⟨xt0, xtz0, xt1, xtz1, xt2, xtz2, xt3, xtz3, xt4, xtz4, xt5, xtz5⟩ := xt.f6
    go_wp2_with fail
    refine (shown14 _).mono ?_
    rintro e V2 ⟨rfl, hk⟩
    clear xs0 xsz0 xs1 xsz1 xs2 xsz2 xs3 xsz3 xs4 xsz4 xs5 xsz5 xt0 xtz0 xt1 xtz1 xt2 xtz2 xt3 xtz3 xt4 xtz4 xt5 xtz5
    replace hB := below_seq hB hk
    replace xs := xs.seq hk
    replace xt := xt.seq hk
    clear hk
    obtain ⟨xs0, xsz0, xs1, xsz1, xs2, xsz2, xs3, xsz3, xs4, xsz4, xs5, xsz5⟩ := xs.f6
    obtain ⟨xt0, xtz0, xt1, xtz1, xt2, xtz2, xt3, xtz3, xt4, xtz4, xt5, xtz5⟩ := xt.f6
    go_wp2
    go_ret
    exact ⟨rfl, hB⟩
  · cases M
    · skip
      clear hpq
      have hB : Below W.heap.size W ((W.alloc (.cells #[.int .i64 a1, .bool a2, .bool a3, .int .i64 a4, .int .i64 a5, .int .i64 a6] 23)).alloc (.cells #[.int .i64 n, .bool a2, .bool a3, .int .i64 a4, .int .i64 a5, .int .i64 a6] 23)) := (((Below.refl _ _).alloc (Nat.le_refl _) _).alloc (by simp) _)
      have xs := ((Box.new 23 W [.int .i64 a1, .bool a2, .bool a3, .int .i64 a4, .int .i64 a5, .int .i64 a6]).alloc (.cells #[.int .i64 n, .bool a2, .bool a3, .int .i64 a4, .int .i64 a5, .int .i64 a6] 23))
      have xt : Box 23 ((W.alloc (.cells #[.int .i64 a1, .bool a2, .bool a3, .int .i64 a4, .int .i64 a5, .int .i64 a6] 23)).alloc (.cells #[.int .i64 n, .bool a2, .bool a3, .int .i64 a4, .int .i64 a5, .int .i64 a6] 23)) (W.heap.size + 1) [.int .i64 n, .bool a2, .bool a3, .int .i64 a4, .int .i64 a5, .int .i64 a6] := by have h := (Box.new 23 (W.alloc (.cells #[.int .i64 a1, .bool a2, .bool a3, .int .i64 a4, .int .i64 a5, .int .i64 a6] 23)) [.int .i64 n, .bool a2, .bool a3, .int .i64 a4, .int .i64 a5, .int .i64 a6]); rwa [World.size_alloc] at h
      have le_xt : W.heap.size ≤ W.heap.size + 1 := by omega
      have xsC0 := (Box.new 23 W [.int .i64 a1, .bool a2, .bool a3, .int .i64 a4, .int .i64 a5, .int .i64 a6]).cell 0 rfl
      have xsD0 := fun o : Obj => ((Box.new 23 W [.int .i64 a1, .bool a2, .bool a3, .int .i64 a4, .int .i64 a5, .int .i64 a6]).alloc o).cell 0 rfl
      have xsC1 := (Box.new 23 W [.int .i64 a1, .bool a2, .bool a3, .int .i64 a4, .int .i64 a5, .int .i64 a6]).cell 1 rfl
      have xsD1 := fun o : Obj => ((Box.new 23 W [.int .i64 a1, .bool a2, .bool a3, .int .i64 a4, .int .i64 a5, .int .i64 a6]).alloc o).cell 1 rfl
      have xsC2 := (Box.new 23 W [.int .i64 a1, .bool a2, .bool a3, .int .i64 a4, .int .i64 a5, .int .i64 a6]).cell 2 rfl
      have xsD2 := fun o : Obj => ((Box.new 23 W [.int .i64 a1, .bool a2, .bool a3, .int .i64 a4, .int .i64 a5, .int .i64 a6]).alloc o).cell 2 rfl
      have xsC3 := (Box.new 23 W [.int .i64 a1, .bool a2, .bool a3, .int .i64 a4, .int .i64 a5, .int .i64 a6]).cell 3 rfl
      have xsD3 := fun o : Obj => ((Box.new 23 W [.int .i64 a1, .bool a2, .bool a3, .int .i64 a4, .int .i64 a5, .int .i64 a6]).alloc o).cell 3 rfl
      have xsC4 := (Box.new 23 W [.int .i64 a1, .bool a2, .bool a3, .int .i64 a4, .int .i64 a5, .int .i64 a6]).cell 4 rfl
      have xsD4 := fun o : Obj => ((Box.new 23 W [.int .i64 a1, .bool a2, .bool a3, .int .i64 a4, .int .i64 a5, .int .i64 a6]).alloc o).cell 4 rfl
      have xsC5 := (Box.new 23 W [.int .i64 a1, .bool a2, .bool a3, .int .i64 a4, .int .i64 a5, .int .i64 a6]).cell 5 rfl
      have xsD5 := fun o : Obj => ((Box.new 23 W [.int .i64 a1, .bool a2, .bool a3, .int .i64 a4, .int .i64 a5, .int .i64 a6]).alloc o).cell 5 rfl
      go_enter Try.func8, Try.ntmps8
      obtain ⟨xs0, xsz0, xs1, xsz1, xs2, xsz2, xs3, xsz3, xs4, xsz4, xs5, xsz5⟩ := xs.f6
      obtain ⟨xt0, xtz0, xt1, xtz1, xt2, xtz2, xt3, xtz3, xt4, xtz4, xt5, xtz5⟩ := xt.f6
      go_wp2_with fail
      clear hw2 xsC0 xsD0 xsC1 xsD1 xsC2 xsD2 xsC3 xsD3 xsC4 xsD4 xsC5 xsD5
      refine (TL.out _).mono ?_
      rintro e V1 ⟨rfl, hk⟩
      clear xs0 xsz0 xs1 xsz1 xs2 xsz2 xs3 xsz3 xs4 xsz4 xs5 xsz5 xt0 xtz0 xt1 xtz1 xt2 xtz2 xt3 xtz3 xt4 xtz4 xt5 xtz5
      replace hB := below_seq hB hk
      replace xs := xs.seq hk
      replace xt := xt.seq hk
      clear hk
      obtain ⟨xs0, xsz0, xs1, xsz1, xs2, xsz2, xs3, xsz3, xs4, xsz4, xs5, xsz5⟩ := xs.f6
      obtain ⟨xt0, xtz0, xt1, xtz1, xt2, xtz2, xt3, xtz3, xt4, xtz4, xt5, xtz5⟩ := xt.f6
      go_wp2_with fail
      refine (TM.out _).mono ?_
      rintro e V2 ⟨rfl, hk⟩
      clear xs0 xsz0 xs1 xsz1 xs2 xsz2 xs3 xsz3 xs4 xsz4 xs5 xsz5 xt0 xtz0 xt1 xtz1 xt2 xtz2 xt3 xtz3 xt4 xtz4 xt5 xtz5
      replace hB := below_seq hB hk
      replace xs := xs.seq hk
      replace xt := xt.seq hk
      clear hk
      obtain ⟨xs0, xsz0, xs1, xsz1, xs2, xsz2, xs3, xsz3, xs4, xsz4, xs5, xsz5⟩ := xs.f6
      obtain ⟨xt0, xtz0, xt1, xtz1, xt2, xtz2, xt3, xtz3, xt4, xtz4, xt5, xtz5⟩ := xt.f6
      go_wp2_with fail
      refine (shown14 _).mono ?_
      rintro e V3 ⟨rfl, hk⟩
      clear xs0 xsz0 xs1 xsz1 xs2 xsz2 xs3 xsz3 xs4 xsz4 xs5 xsz5 xt0 xtz0 xt1 xtz1 xt2 xtz2 xt3 xtz3 xt4 xtz4 xt5 xtz5
      replace hB := below_seq hB hk
      replace xs := xs.seq hk
      replace xt := xt.seq hk
      clear hk
      obtain ⟨xs0, xsz0, xs1, xsz1, xs2, xsz2, xs3, xsz3, xs4, xsz4, xs5, xsz5⟩ := xs.f6
      obtain ⟨xt0, xtz0, xt1, xtz1, xt2, xtz2, xt3, xtz3, xt4, xtz4, xt5, xtz5⟩ := xt.f6
      go_wp2
      go_ret
      exact ⟨rfl, hB⟩
    · replace hpq := hpq rfl rfl
      by_cases e : n = a1
      · obtain rfl := hpq.2 e
        clear hpq
        have e3 : a1 = n := e.symm
        clear e
        subst e3
        have hB : Below W.heap.size W ((W.alloc (.cells #[.int .i64 a1, .bool a2, .bool a3, .int .i64 a4, .int .i64 a5, .int .i64 a6] 23)).alloc (.cells #[.int .i64 a1, .bool a2, .bool a3, .int .i64 a4, .int .i64 a5, .int .i64 a6] 23)) := (((Below.refl _ _).alloc (Nat.le_refl _) _).alloc (by simp) _)
        have xs := ((Box.new 23 W [.int .i64 a1, .bool a2, .bool a3, .int .i64 a4, .int .i64 a5, .int .i64 a6]).alloc (.cells #[.int .i64 a1, .bool a2, .bool a3, .int .i64 a4, .int .i64 a5, .int .i64 a6] 23))
        have xt : Box 23 ((W.alloc (.cells #[.int .i64 a1, .bool a2, .bool a3, .int .i64 a4, .int .i64 a5, .int .i64 a6] 23)).alloc (.cells #[.int .i64 a1, .bool a2, .bool a3, .int .i64 a4, .int .i64 a5, .int .i64 a6] 23)) (W.heap.size + 1) [.int .i64 a1, .bool a2, .bool a3, .int .i64 a4, .int .i64 a5, .int .i64 a6] := by have h := (Box.new 23 (W.alloc (.cells #[.int .i64 a1, .bool a2, .bool a3, .int .i64 a4, .int .i64 a5, .int .i64 a6] 23)) [.int .i64 a1, .bool a2, .bool a3, .int .i64 a4, .int .i64 a5, .int .i64 a6]); rwa [World.size_alloc] at h
        have le_xt : W.heap.size ≤ W.heap.size + 1 := by omega
        have xsC0 := (Box.new 23 W [.int .i64 a1, .bool a2, .bool a3, .int .i64 a4, .int .i64 a5, .int .i64 a6]).cell 0 rfl
        have xsD0 := fun o : Obj => ((Box.new 23 W [.int .i64 a1, .bool a2, .bool a3, .int .i64 a4, .int .i64 a5, .int .i64 a6]).alloc o).cell 0 rfl
        have xsC1 := (Box.new 23 W [.int .i64 a1, .bool a2, .bool a3, .int .i64 a4, .int .i64 a5, .int .i64 a6]).cell 1 rfl
        have xsD1 := fun o : Obj => ((Box.new 23 W [.int .i64 a1, .bool a2, .bool a3, .int .i64 a4, .int .i64 a5, .int .i64 a6]).alloc o).cell 1 rfl
        have xsC2 := (Box.new 23 W [.int .i64 a1, .bool a2, .bool a3, .int .i64 a4, .int .i64 a5, .int .i64 a6]).cell 2 rfl
        have xsD2 := fun o : Obj => ((Box.new 23 W [.int .i64 a1, .bool a2, .bool a3, .int .i64 a4, .int .i64 a5, .int .i64 a6]).alloc o).cell 2 rfl
        have xsC3 := (Box.new 23 W [.int .i64 a1, .bool a2, .bool a3, .int .i64 a4, .int .i64 a5, .int .i64 a6]).cell 3 rfl
        have xsD3 := fun o : Obj => ((Box.new 23 W [.int .i64 a1, .bool a2, .bool a3, .int .i64 a4, .int .i64 a5, .int .i64 a6]).alloc o).cell 3 rfl
        have xsC4 := (Box.new 23 W [.int .i64 a1, .bool a2, .bool a3, .int .i64 a4, .int .i64 a5, .int .i64 a6]).cell 4 rfl
        have xsD4 := fun o : Obj => ((Box.new 23 W [.int .i64 a1, .bool a2, .bool a3, .int .i64 a4, .int .i64 a5, .int .i64 a6]).alloc o).cell 4 rfl
        have xsC5 := (Box.new 23 W [.int .i64 a1, .bool a2, .bool a3, .int .i64 a4, .int .i64 a5, .int .i64 a6]).cell 5 rfl
        have xsD5 := fun o : Obj => ((Box.new 23 W [.int .i64 a1, .bool a2, .bool a3, .int .i64 a4, .int .i64 a5, .int .i64 a6]).alloc o).cell 5 rfl
        go_enter Try.func8, Try.ntmps8
        obtain ⟨xs0, xsz0, xs1, xsz1, xs2, xsz2, xs3, xsz3, xs4, xsz4, xs5, xsz5⟩ := xs.f6
        obtain ⟨xt0, xtz0, xt1, xtz1, xt2, xtz2, xt3, xtz3, xt4, xtz4, xt5, xtz5⟩ := xt.f6
        go_wp2_with fail
        clear hw2 xsC0 xsD0 xsC1 xsD1 xsC2 xsD2 xsC3 xsD3 xsC4 xsD4 xsC5 xsD5
        refine (TL.out _).mono ?_
        rintro e V1 ⟨rfl, hk⟩
        clear xs0 xsz0 xs1 xsz1 xs2 xsz2 xs3 xsz3 xs4 xsz4 xs5 xsz5 xt0 xtz0 xt1 xtz1 xt2 xtz2 xt3 xtz3 xt4 xtz4 xt5 xtz5
        replace hB := below_seq hB hk
        replace xs := xs.seq hk
        replace xt := xt.seq hk
        clear hk
        obtain ⟨xs0, xsz0, xs1, xsz1, xs2, xsz2, xs3, xsz3, xs4, xsz4, xs5, xsz5⟩ := xs.f6
        obtain ⟨xt0, xtz0, xt1, xtz1, xt2, xtz2, xt3, xtz3, xt4, xtz4, xt5, xtz5⟩ := xt.f6
        go_wp2_with fail
        refine (TM.out _).mono ?_
        rintro e V2 ⟨rfl, hk⟩
        clear xs0 xsz0 xs1 xsz1 xs2 xsz2 xs3 xsz3 xs4 xsz4 xs5 xsz5 xt0 xtz0 xt1 xtz1 xt2 xtz2 xt3 xtz3 xt4 xtz4 xt5 xtz5
        replace hB := below_seq hB hk
        replace xs := xs.seq hk
        replace xt := xt.seq hk
        clear hk
        obtain ⟨xs0, xsz0, xs1, xsz1, xs2, xsz2, xs3, xsz3, xs4, xsz4, xs5, xsz5⟩ := xs.f6
        obtain ⟨xt0, xtz0, xt1, xtz1, xt2, xtz2, xt3, xtz3, xt4, xtz4, xt5, xtz5⟩ := xt.f6
        go_wp2_with fail
        refine (shown14 _).mono ?_
        rintro e V3 ⟨rfl, hk⟩
        clear xs0 xsz0 xs1 xsz1 xs2 xsz2 xs3 xsz3 xs4 xsz4 xs5 xsz5 xt0 xtz0 xt1 xtz1 xt2 xtz2 xt3 xtz3 xt4 xtz4 xt5 xtz5
        replace hB := below_seq hB hk
        replace xs := xs.seq hk
        replace xt := xt.seq hk
        clear hk
        obtain ⟨xs0, xsz0, xs1, xsz1, xs2, xsz2, xs3, xsz3, xs4, xsz4, xs5, xsz5⟩ := xs.f6
        obtain ⟨xt0, xtz0, xt1, xtz1, xt2, xtz2, xt3, xtz3, xt4, xtz4, xt5, xtz5⟩ := xt.f6
        go_wp2_with fail
        clear xs0 xsz0 xs1 xsz1 xs2 xsz2 xs3 xsz3 xs4 xsz4 xs5 xsz5 xt0 xtz0 xt1 xtz1 xt2 xtz2 xt3 xtz3 xt4 xtz4 xt5 xtz5
        replace hB := hB.drew
        replace xs := xs.drew
        replace xt := xt.drew
        refine wp_region_held_drew (S := fun w' => w'.cell? ⟨W.heap.size, 0, none⟩ = some (.int .i64 a1) ∧ w'.cell? ⟨W.heap.size, 1, none⟩ = some (.bool a2) ∧ w'.cell? ⟨W.heap.size, 2, none⟩ = some (.bool a3) ∧ w'.cell? ⟨W.heap.size, 3, none⟩ = some (.int .i64 a4) ∧ w'.cell? ⟨W.heap.size, 4, none⟩ = some (.int .i64 a5) ∧ w'.cell? ⟨W.heap.size, 5, none⟩ = some (.int .i64 a6) ∧ w'.cell? ⟨W.heap.size + 1, 0, none⟩ = some (.int .i64 a1) ∧ w'.cell? ⟨W.heap.size + 1, 1, none⟩ = some (.bool a2) ∧ w'.cell? ⟨W.heap.size + 1, 2, none⟩ = some (.bool a3) ∧ w'.cell? ⟨W.heap.size + 1, 3, none⟩ = some (.int .i64 a4) ∧ w'.cell? ⟨W.heap.size + 1, 4, none⟩ = some (.int .i64 a5) ∧ w'.cell? ⟨W.heap.size + 1, 5, none⟩ = some (.int .i64 a6)) (by kernel_rfl) ?_ (fun hHeld => ?_)
        · exact ⟨xs.cell 0 rfl, xs.cell 1 rfl, xs.cell 2 rfl, xs.cell 3 rfl, xs.cell 4 rfl, xs.cell 5 rfl, xt.cell 0 rfl, xt.cell 1 rfl, xt.cell 2 rfl, xt.cell 3 rfl, xt.cell 4 rfl, xt.cell 5 rfl⟩
        generalize V3.drew = V4 at *
        refine tk 0 (v := ?_) rfl (Or.inl ⟨by rfl, ?_⟩) ?_; rotate_left
        · intro w hSw; (try dsimp only at hSw); go_simp; try with_reducible rfl
        try simp only [Act.put, l1, l2, l3, l4, l5, l6]
        refine tk 2 (v := ?_) rfl (Or.inl ⟨by rfl, ?_⟩) ?_; rotate_left
        · intro w hSw; (try dsimp only at hSw); go_simp; try with_reducible rfl
        try simp only [Act.put, l1, l2, l3, l4, l5, l6]
        refine tk 5 (v := ?_) rfl (Or.inl ⟨by rfl, ?_⟩) ?_; rotate_left
        · intro w hSw; (try dsimp only at hSw); go_simp; try with_reducible rfl
        try simp only [Act.put, l1, l2, l3, l4, l5, l6]
        refine tk 6 (v := ?_) rfl (Or.inl ⟨by rfl, ?_⟩) ?_; rotate_left
        · intro w hSw; (try dsimp only at hSw); go_simp; try with_reducible rfl
        try simp only [Act.put, l1, l2, l3, l4, l5, l6]
        refine tk 7 (v := ?_) rfl (Or.inl ⟨by rfl, ?_⟩) ?_; rotate_left
        · intro w hSw; (try dsimp only at hSw); go_simp; try with_reducible rfl
        try simp only [Act.put, l1, l2, l3, l4, l5, l6]
        refine wpAnyH_ready (rs := [1]) (by kernel_rfl) (by simp) ?_
        refine AllReadyH.cons rfl (fun K hK => ?_) AllReadyH.nil
        obtain ⟨xs0, xsz0, xs1, xsz1, xs2, xsz2, xs3, xsz3, xs4, xsz4, xs5, xsz5⟩ := xs.f6
        obtain ⟨xt0, xtz0, xt1, xtz1, xt2, xtz2, xt3, xtz3, xt4, xtz4, xt5, xtz5⟩ := xt.f6
        go_simp
        refine (TP.out _).mono ?_
        rintro e V5 ⟨rfl, hk⟩
        clear xs0 xsz0 xs1 xsz1 xs2 xsz2 xs3 xsz3 xs4 xsz4 xs5 xsz5 xt0 xtz0 xt1 xtz1 xt2 xtz2 xt3 xtz3 xt4 xtz4 xt5 xtz5
        replace hB := below_seq hB hk
        replace xs := xs.seq hk
        replace xt := xt.seq hk
        clear hk
        obtain ⟨xs0, xsz0, xs1, xsz1, xs2, xsz2, xs3, xsz3, xs4, xsz4, xs5, xsz5⟩ := xs.f6
        obtain ⟨xt0, xtz0, xt1, xtz1, xt2, xtz2, xt3, xtz3, xt4, xtz4, xt5, xtz5⟩ := xt.f6
        try go_wp2_with fail
        clear xs0 xsz0 xs1 xsz1 xs2 xsz2 xs3 xsz3 xs4 xsz4 xs5 xsz5 xt0 xtz0 xt1 xtz1 xt2 xtz2 xt3 xtz3 xt4 xtz4 xt5 xtz5
        clear hHeld
        refine hK.out _ _ ?_ (fun hHeld => ?_)
        · exact ⟨xs.cell 0 rfl, xs.cell 1 rfl, xs.cell 2 rfl, xs.cell 3 rfl, xs.cell 4 rfl, xs.cell 5 rfl, xt.cell 0 rfl, xt.cell 1 rfl, xt.cell 2 rfl, xt.cell 3 rfl, xt.cell 4 rfl, xt.cell 5 rfl⟩
        clear hK K
        try simp only [Act.put, l1, l2, l3, l4, l5, l6]
        refine wpAnyH_ready (rs := [3]) (by kernel_rfl) (by simp) ?_
        refine AllReadyH.cons rfl (fun K hK => ?_) AllReadyH.nil
        obtain ⟨xs0, xsz0, xs1, xsz1, xs2, xsz2, xs3, xsz3, xs4, xsz4, xs5, xsz5⟩ := xs.f6
        obtain ⟨xt0, xtz0, xt1, xtz1, xt2, xtz2, xt3, xtz3, xt4, xtz4, xt5, xtz5⟩ := xt.f6
        go_simp
        refine (TQ.out _).mono ?_
        rintro e V6 ⟨rfl, hk⟩
        clear xs0 xsz0 xs1 xsz1 xs2 xsz2 xs3 xsz3 xs4 xsz4 xs5 xsz5 xt0 xtz0 xt1 xtz1 xt2 xtz2 xt3 xtz3 xt4 xtz4 xt5 xtz5
        replace hB := below_seq hB hk
        replace xs := xs.seq hk
        replace xt := xt.seq hk
        clear hk
        obtain ⟨xs0, xsz0, xs1, xsz1, xs2, xsz2, xs3, xsz3, xs4, xsz4, xs5, xsz5⟩ := xs.f6
        obtain ⟨xt0, xtz0, xt1, xtz1, xt2, xtz2, xt3, xtz3, xt4, xtz4, xt5, xtz5⟩ := xt.f6
        try go_wp2_with fail
        clear xs0 xsz0 xs1 xsz1 xs2 xsz2 xs3 xsz3 xs4 xsz4 xs5 xsz5 xt0 xtz0 xt1 xtz1 xt2 xtz2 xt3 xtz3 xt4 xtz4 xt5 xtz5
        clear hHeld
        refine hK.out _ _ ?_ (fun hHeld => ?_)
        · exact ⟨xs.cell 0 rfl, xs.cell 1 rfl, xs.cell 2 rfl, xs.cell 3 rfl, xs.cell 4 rfl, xs.cell 5 rfl, xt.cell 0 rfl, xt.cell 1 rfl, xt.cell 2 rfl, xt.cell 3 rfl, xt.cell 4 rfl, xt.cell 5 rfl⟩
        clear hK K
        try simp only [Act.put, l1, l2, l3, l4, l5, l6]
        refine tk 4 (v := ?_) rfl (Or.inl ⟨by rfl, ?_⟩) ?_; rotate_left
        · intro w hSw; (try dsimp only at hSw); go_simp; try with_reducible rfl
        try simp only [Act.put, l1, l2, l3, l4, l5, l6]
        refine tk 8 (v := ?_) rfl (Or.inl ⟨by rfl, ?_⟩) ?_; rotate_left
        · intro w hSw; (try dsimp only at hSw); go_simp; try with_reducible rfl
        try simp only [Act.put, l1, l2, l3, l4, l5, l6]
        refine tk 9 (v := ?_) rfl (Or.inl ⟨by rfl, ?_⟩) ?_; rotate_left
        · intro w hSw; (try dsimp only at hSw); go_simp; try with_reducible rfl
        try simp only [Act.put, l1, l2, l3, l4, l5, l6]
        refine wpAnyH_done (by kernel_rfl) ?_ _
        clear hHeld
        obtain ⟨xs0, xsz0, xs1, xsz1, xs2, xsz2, xs3, xsz3, xs4, xsz4, xs5, xsz5⟩ := xs.f6
        obtain ⟨xt0, xtz0, xt1, xtz1, xt2, xtz2, xt3, xtz3, xt4, xtz4, xt5, xtz5⟩ := xt.f6
        go_wp2
        go_ret
        exact ⟨rfl, hB⟩
      · have np : ((P : Int) == (Q : Int)) = false := beq_eq_false_iff_ne.2 (fun h => e (hpq.1 (Int.ofNat_inj.1 h)))
        have e2 : ¬ a1 = n := fun h => e h.symm
        clear hpq
        have hB : Below W.heap.size W ((W.alloc (.cells #[.int .i64 a1, .bool a2, .bool a3, .int .i64 a4, .int .i64 a5, .int .i64 a6] 23)).alloc (.cells #[.int .i64 n, .bool a2, .bool a3, .int .i64 a4, .int .i64 a5, .int .i64 a6] 23)) := (((Below.refl _ _).alloc (Nat.le_refl _) _).alloc (by simp) _)
        have xs := ((Box.new 23 W [.int .i64 a1, .bool a2, .bool a3, .int .i64 a4, .int .i64 a5, .int .i64 a6]).alloc (.cells #[.int .i64 n, .bool a2, .bool a3, .int .i64 a4, .int .i64 a5, .int .i64 a6] 23))
        have xt : Box 23 ((W.alloc (.cells #[.int .i64 a1, .bool a2, .bool a3, .int .i64 a4, .int .i64 a5, .int .i64 a6] 23)).alloc (.cells #[.int .i64 n, .bool a2, .bool a3, .int .i64 a4, .int .i64 a5, .int .i64 a6] 23)) (W.heap.size + 1) [.int .i64 n, .bool a2, .bool a3, .int .i64 a4, .int .i64 a5, .int .i64 a6] := by have h := (Box.new 23 (W.alloc (.cells #[.int .i64 a1, .bool a2, .bool a3, .int .i64 a4, .int .i64 a5, .int .i64 a6] 23)) [.int .i64 n, .bool a2, .bool a3, .int .i64 a4, .int .i64 a5, .int .i64 a6]); rwa [World.size_alloc] at h
        have le_xt : W.heap.size ≤ W.heap.size + 1 := by omega
        have xsC0 := (Box.new 23 W [.int .i64 a1, .bool a2, .bool a3, .int .i64 a4, .int .i64 a5, .int .i64 a6]).cell 0 rfl
        have xsD0 := fun o : Obj => ((Box.new 23 W [.int .i64 a1, .bool a2, .bool a3, .int .i64 a4, .int .i64 a5, .int .i64 a6]).alloc o).cell 0 rfl
        have xsC1 := (Box.new 23 W [.int .i64 a1, .bool a2, .bool a3, .int .i64 a4, .int .i64 a5, .int .i64 a6]).cell 1 rfl
        have xsD1 := fun o : Obj => ((Box.new 23 W [.int .i64 a1, .bool a2, .bool a3, .int .i64 a4, .int .i64 a5, .int .i64 a6]).alloc o).cell 1 rfl
        have xsC2 := (Box.new 23 W [.int .i64 a1, .bool a2, .bool a3, .int .i64 a4, .int .i64 a5, .int .i64 a6]).cell 2 rfl
        have xsD2 := fun o : Obj => ((Box.new 23 W [.int .i64 a1, .bool a2, .bool a3, .int .i64 a4, .int .i64 a5, .int .i64 a6]).alloc o).cell 2 rfl
        have xsC3 := (Box.new 23 W [.int .i64 a1, .bool a2, .bool a3, .int .i64 a4, .int .i64 a5, .int .i64 a6]).cell 3 rfl
        have xsD3 := fun o : Obj => ((Box.new 23 W [.int .i64 a1, .bool a2, .bool a3, .int .i64 a4, .int .i64 a5, .int .i64 a6]).alloc o).cell 3 rfl
        have xsC4 := (Box.new 23 W [.int .i64 a1, .bool a2, .bool a3, .int .i64 a4, .int .i64 a5, .int .i64 a6]).cell 4 rfl
        have xsD4 := fun o : Obj => ((Box.new 23 W [.int .i64 a1, .bool a2, .bool a3, .int .i64 a4, .int .i64 a5, .int .i64 a6]).alloc o).cell 4 rfl
        have xsC5 := (Box.new 23 W [.int .i64 a1, .bool a2, .bool a3, .int .i64 a4, .int .i64 a5, .int .i64 a6]).cell 5 rfl
        have xsD5 := fun o : Obj => ((Box.new 23 W [.int .i64 a1, .bool a2, .bool a3, .int .i64 a4, .int .i64 a5, .int .i64 a6]).alloc o).cell 5 rfl
        go_enter Try.func8, Try.ntmps8
        obtain ⟨xs0, xsz0, xs1, xsz1, xs2, xsz2, xs3, xsz3, xs4, xsz4, xs5, xsz5⟩ := xs.f6
        obtain ⟨xt0, xtz0, xt1, xtz1, xt2, xtz2, xt3, xtz3, xt4, xtz4, xt5, xtz5⟩ := xt.f6
        go_wp2_with fail
        clear hw2 xsC0 xsD0 xsC1 xsD1 xsC2 xsD2 xsC3 xsD3 xsC4 xsD4 xsC5 xsD5
        refine (TL.out _).mono ?_
        rintro e V1 ⟨rfl, hk⟩
        clear xs0 xsz0 xs1 xsz1 xs2 xsz2 xs3 xsz3 xs4 xsz4 xs5 xsz5 xt0 xtz0 xt1 xtz1 xt2 xtz2 xt3 xtz3 xt4 xtz4 xt5 xtz5
        replace hB := below_seq hB hk
        replace xs := xs.seq hk
        replace xt := xt.seq hk
        clear hk
        obtain ⟨xs0, xsz0, xs1, xsz1, xs2, xsz2, xs3, xsz3, xs4, xsz4, xs5, xsz5⟩ := xs.f6
        obtain ⟨xt0, xtz0, xt1, xtz1, xt2, xtz2, xt3, xtz3, xt4, xtz4, xt5, xtz5⟩ := xt.f6
        go_wp2_with fail
        refine (TM.out _).mono ?_
        rintro e V2 ⟨rfl, hk⟩
        clear xs0 xsz0 xs1 xsz1 xs2 xsz2 xs3 xsz3 xs4 xsz4 xs5 xsz5 xt0 xtz0 xt1 xtz1 xt2 xtz2 xt3 xtz3 xt4 xtz4 xt5 xtz5
        replace hB := below_seq hB hk
        replace xs := xs.seq hk
        replace xt := xt.seq hk
        clear hk
        obtain ⟨xs0, xsz0, xs1, xsz1, xs2, xsz2, xs3, xsz3, xs4, xsz4, xs5, xsz5⟩ := xs.f6
        obtain ⟨xt0, xtz0, xt1, xtz1, xt2, xtz2, xt3, xtz3, xt4, xtz4, xt5, xtz5⟩ := xt.f6
        go_wp2_with fail
        refine (shown14 _).mono ?_
        rintro e V3 ⟨rfl, hk⟩
        clear xs0 xsz0 xs1 xsz1 xs2 xsz2 xs3 xsz3 xs4 xsz4 xs5 xsz5 xt0 xtz0 xt1 xtz1 xt2 xtz2 xt3 xtz3 xt4 xtz4 xt5 xtz5
        replace hB := below_seq hB hk
        replace xs := xs.seq hk
        replace xt := xt.seq hk
        clear hk
        obtain ⟨xs0, xsz0, xs1, xsz1, xs2, xsz2, xs3, xsz3, xs4, xsz4, xs5, xsz5⟩ := xs.f6
        obtain ⟨xt0, xtz0, xt1, xtz1, xt2, xtz2, xt3, xtz3, xt4, xtz4, xt5, xtz5⟩ := xt.f6
        go_wp2_with fail
        clear xs0 xsz0 xs1 xsz1 xs2 xsz2 xs3 xsz3 xs4 xsz4 xs5 xsz5 xt0 xtz0 xt1 xtz1 xt2 xtz2 xt3 xtz3 xt4 xtz4 xt5 xtz5
        replace hB := hB.drew
        replace xs := xs.drew
        replace xt := xt.drew
        refine wp_region_held_drew (S := fun w' => w'.cell? ⟨W.heap.size, 0, none⟩ = some (.int .i64 a1) ∧ w'.cell? ⟨W.heap.size, 1, none⟩ = some (.bool a2) ∧ w'.cell? ⟨W.heap.size, 2, none⟩ = some (.bool a3) ∧ w'.cell? ⟨W.heap.size, 3, none⟩ = some (.int .i64 a4) ∧ w'.cell? ⟨W.heap.size, 4, none⟩ = some (.int .i64 a5) ∧ w'.cell? ⟨W.heap.size, 5, none⟩ = some (.int .i64 a6) ∧ w'.cell? ⟨W.heap.size + 1, 0, none⟩ = some (.int .i64 n) ∧ w'.cell? ⟨W.heap.size + 1, 1, none⟩ = some (.bool a2) ∧ w'.cell? ⟨W.heap.size + 1, 2, none⟩ = some (.bool a3) ∧ w'.cell? ⟨W.heap.size + 1, 3, none⟩ = some (.int .i64 a4) ∧ w'.cell? ⟨W.heap.size + 1, 4, none⟩ = some (.int .i64 a5) ∧ w'.cell? ⟨W.heap.size + 1, 5, none⟩ = some (.int .i64 a6)) (by kernel_rfl) ?_ (fun hHeld => ?_)
        · exact ⟨xs.cell 0 rfl, xs.cell 1 rfl, xs.cell 2 rfl, xs.cell 3 rfl, xs.cell 4 rfl, xs.cell 5 rfl, xt.cell 0 rfl, xt.cell 1 rfl, xt.cell 2 rfl, xt.cell 3 rfl, xt.cell 4 rfl, xt.cell 5 rfl⟩
        generalize V3.drew = V4 at *
        refine tk 0 (v := ?_) rfl (Or.inl ⟨by rfl, ?_⟩) ?_; rotate_left
        · intro w hSw; (try dsimp only at hSw); go_simp; try with_reducible rfl
        try simp only [Act.put, l1, l2, l3, l4, l5, l6]
        refine tk 2 (v := ?_) rfl (Or.inl ⟨by rfl, ?_⟩) ?_; rotate_left
        · intro w hSw; (try dsimp only at hSw); go_simp; try with_reducible rfl
        try simp only [Act.put, l1, l2, l3, l4, l5, l6]
        refine tk 5 (v := ?_) rfl (Or.inl ⟨by rfl, ?_⟩) ?_; rotate_left
        · intro w hSw; (try dsimp only at hSw); go_simp; try with_reducible rfl
        try simp only [Act.put, l1, l2, l3, l4, l5, l6]
        refine tk 6 (v := ?_) rfl (Or.inl ⟨by rfl, ?_⟩) ?_; rotate_left
        · intro w hSw; (try dsimp only at hSw); go_simp; try with_reducible rfl
        try simp only [Act.put, l1, l2, l3, l4, l5, l6]
        refine tk 7 (v := ?_) rfl (Or.inl ⟨by rfl, ?_⟩) ?_; rotate_left
        · intro w hSw; (try dsimp only at hSw); go_simp; try with_reducible rfl
        try simp only [Act.put, l1, l2, l3, l4, l5, l6]
        refine wpAnyH_ready (rs := [1]) (by kernel_rfl) (by simp) ?_
        refine AllReadyH.cons rfl (fun K hK => ?_) AllReadyH.nil
        obtain ⟨xs0, xsz0, xs1, xsz1, xs2, xsz2, xs3, xsz3, xs4, xsz4, xs5, xsz5⟩ := xs.f6
        obtain ⟨xt0, xtz0, xt1, xtz1, xt2, xtz2, xt3, xtz3, xt4, xtz4, xt5, xtz5⟩ := xt.f6
        go_simp
        refine (TP.out _).mono ?_
        rintro e V5 ⟨rfl, hk⟩
        clear xs0 xsz0 xs1 xsz1 xs2 xsz2 xs3 xsz3 xs4 xsz4 xs5 xsz5 xt0 xtz0 xt1 xtz1 xt2 xtz2 xt3 xtz3 xt4 xtz4 xt5 xtz5
        replace hB := below_seq hB hk
        replace xs := xs.seq hk
        replace xt := xt.seq hk
        clear hk
        obtain ⟨xs0, xsz0, xs1, xsz1, xs2, xsz2, xs3, xsz3, xs4, xsz4, xs5, xsz5⟩ := xs.f6
        obtain ⟨xt0, xtz0, xt1, xtz1, xt2, xtz2, xt3, xtz3, xt4, xtz4, xt5, xtz5⟩ := xt.f6
        try go_wp2_with fail
        clear xs0 xsz0 xs1 xsz1 xs2 xsz2 xs3 xsz3 xs4 xsz4 xs5 xsz5 xt0 xtz0 xt1 xtz1 xt2 xtz2 xt3 xtz3 xt4 xtz4 xt5 xtz5
        clear hHeld
        refine hK.out _ _ ?_ (fun hHeld => ?_)
        · exact ⟨xs.cell 0 rfl, xs.cell 1 rfl, xs.cell 2 rfl, xs.cell 3 rfl, xs.cell 4 rfl, xs.cell 5 rfl, xt.cell 0 rfl, xt.cell 1 rfl, xt.cell 2 rfl, xt.cell 3 rfl, xt.cell 4 rfl, xt.cell 5 rfl⟩
        clear hK K
        try simp only [Act.put, l1, l2, l3, l4, l5, l6]
        refine wpAnyH_ready (rs := [3]) (by kernel_rfl) (by simp) ?_
        refine AllReadyH.cons rfl (fun K hK => ?_) AllReadyH.nil
        obtain ⟨xs0, xsz0, xs1, xsz1, xs2, xsz2, xs3, xsz3, xs4, xsz4, xs5, xsz5⟩ := xs.f6
        obtain ⟨xt0, xtz0, xt1, xtz1, xt2, xtz2, xt3, xtz3, xt4, xtz4, xt5, xtz5⟩ := xt.f6
        go_simp
        refine (TQ.out _).mono ?_
        rintro e V6 ⟨rfl, hk⟩
        clear xs0 xsz0 xs1 xsz1 xs2 xsz2 xs3 xsz3 xs4 xsz4 xs5 xsz5 xt0 xtz0 xt1 xtz1 xt2 xtz2 xt3 xtz3 xt4 xtz4 xt5 xtz5
        replace hB := below_seq hB hk
        replace xs := xs.seq hk
        replace xt := xt.seq hk
        clear hk
        obtain ⟨xs0, xsz0, xs1, xsz1, xs2, xsz2, xs3, xsz3, xs4, xsz4, xs5, xsz5⟩ := xs.f6
        obtain ⟨xt0, xtz0, xt1, xtz1, xt2, xtz2, xt3, xtz3, xt4, xtz4, xt5, xtz5⟩ := xt.f6
        try go_wp2_with fail
        clear xs0 xsz0 xs1 xsz1 xs2 xsz2 xs3 xsz3 xs4 xsz4 xs5 xsz5 xt0 xtz0 xt1 xtz1 xt2 xtz2 xt3 xtz3 xt4 xtz4 xt5 xtz5
        clear hHeld
        refine hK.out _ _ ?_ (fun hHeld => ?_)
        · exact ⟨xs.cell 0 rfl, xs.cell 1 rfl, xs.cell 2 rfl, xs.cell 3 rfl, xs.cell 4 rfl, xs.cell 5 rfl, xt.cell 0 rfl, xt.cell 1 rfl, xt.cell 2 rfl, xt.cell 3 rfl, xt.cell 4 rfl, xt.cell 5 rfl⟩
        clear hK K
        try simp only [Act.put, l1, l2, l3, l4, l5, l6]
        refine tk 4 (v := ?_) rfl (Or.inl ⟨by rfl, ?_⟩) ?_; rotate_left
        · intro w hSw; (try dsimp only at hSw); go_simp; try with_reducible rfl
        try simp only [Act.put, l1, l2, l3, l4, l5, l6]
        refine tk 8 (v := ?_) rfl (Or.inl ⟨by rfl, ?_⟩) ?_; rotate_left
        · intro w hSw; (try dsimp only at hSw); go_simp; try with_reducible rfl
        try simp only [Act.put, l1, l2, l3, l4, l5, l6]
        refine tk 9 (v := ?_) rfl (Or.inl ⟨by rfl, ?_⟩) ?_; rotate_left
        · intro w hSw; (try dsimp only at hSw); go_simp; try with_reducible rfl
        try simp only [Act.put, l1, l2, l3, l4, l5, l6]
        refine wpAnyH_done (by kernel_rfl) ?_ _
        clear hHeld
        obtain ⟨xs0, xsz0, xs1, xsz1, xs2, xsz2, xs3, xsz3, xs4, xsz4, xs5, xsz5⟩ := xs.f6
        obtain ⟨xt0, xtz0, xt1, xtz1, xt2, xtz2, xt3, xtz3, xt4, xtz4, xt5, xtz5⟩ := xt.f6
        go_wp2
        go_ret
        exact ⟨rfl, hB⟩

set_option maxRecDepth 100000 in
set_option maxHeartbeats 4000000 in
theorem field1 (a1 : Int) (a2 a3 : Bool) (a4 a5 a6 n : Int) (which : UInt8) (L M : Bool) (P Q : Nat) (W : World) (hw : which.toNat % 6 = 1) (TL : ∀ W : World, Gives Try.prog 11 #[.agg #[.int .i64 a1, .bool a2, .bool a3, .int .i64 a4, .int .i64 a5, .int .i64 a6]] W (.bool L)) (TM : ∀ W : World, Gives Try.prog 11 #[.agg #[.int .i64 a1, .bool (!a2), .bool a3, .int .i64 a4, .int .i64 a5, .int .i64 a6]] W (.bool M)) (TP : ∀ W : World, Gives Try.prog 13 #[.agg #[.int .i64 a1, .bool a2, .bool a3, .int .i64 a4, .int .i64 a5, .int .i64 a6]] W (.int .u64 (P : Int))) (TQ : ∀ W : World, Gives Try.prog 13 #[.agg #[.int .i64 a1, .bool (!a2), .bool a3, .int .i64 a4, .int .i64 a5, .int .i64 a6]] W (.int .u64 (Q : Int))) (hpq : L = true → M = true → ¬ P = Q) :
    Gives Try.prog 8 #[.agg #[.int .i64 a1, .bool a2, .bool a3, .int .i64 a4, .int .i64 a5, .int .i64 a6], .int .u8 (which.toNat : Int), .int .i64 n] W (.bool true) := by
  have hw2 : (which.toNat : Int) % 6 = 1 := by omega
  clear hw
  replace TL := Lib.hid TL
  replace TM := Lib.hid TM
  replace TP := Lib.hid TP
  replace TQ := Lib.hid TQ
  cases L
  · skip
    clear hpq
    have hB : Below W.heap.size W ((W.alloc (.cells #[.int .i64 a1, .bool a2, .bool a3, .int .i64 a4, .int .i64 a5, .int .i64 a6] 23)).alloc (.cells #[.int .i64 a1, .bool (!a2), .bool a3, .int .i64 a4, .int .i64 a5, .int .i64 a6] 23)) := (((Below.refl _ _).alloc (Nat.le_refl _) _).alloc (by simp) _)
    have xs := ((Box.new 23 W [.int .i64 a1, .bool a2, .bool a3, .int .i64 a4, .int .i64 a5, .int .i64 a6]).alloc (.cells #[.int .i64 a1, .bool (!a2), .bool a3, .int .i64 a4, .int .i64 a5, .int .i64 a6] 23))
    have xt : Box 23 ((W.alloc (.cells #[.int .i64 a1, .bool a2, .bool a3, .int .i64 a4, .int .i64 a5, .int .i64 a6] 23)).alloc (.cells #[.int .i64 a1, .bool (!a2), .bool a3, .int .i64 a4, .int .i64 a5, .int .i64 a6] 23)) (W.heap.size + 1) [.int .i64 a1, .bool (!a2), .bool a3, .int .i64 a4, .int .i64 a5, .int .i64 a6] := by have h := (Box.new 23 (W.alloc (.cells #[.int .i64 a1, .bool a2, .bool a3, .int .i64 a4, .int .i64 a5, .int .i64 a6] 23)) [.int .i64 a1, .bool (!a2), .bool a3, .int .i64 a4, .int .i64 a5, .int .i64 a6]); rwa [World.size_alloc] at h
    have le_xt : W.heap.size ≤ W.heap.size + 1 := by omega
    have xsC0 := (Box.new 23 W [.int .i64 a1, .bool a2, .bool a3, .int .i64 a4, .int .i64 a5, .int .i64 a6]).cell 0 rfl
    have xsD0 := fun o : Obj => ((Box.new 23 W [.int .i64 a1, .bool a2, .bool a3, .int .i64 a4, .int .i64 a5, .int .i64 a6]).alloc o).cell 0 rfl
    have xsC1 := (Box.new 23 W [.int .i64 a1, .bool a2, .bool a3, .int .i64 a4, .int .i64 a5, .int .i64 a6]).cell 1 rfl
    have xsD1 := fun o : Obj => ((Box.new 23 W [.int .i64 a1, .bool a2, .bool a3, .int .i64 a4, .int .i64 a5, .int .i64 a6]).alloc o).cell 1 rfl
    have xsC2 := (Box.new 23 W [.int .i64 a1, .bool a2, .bool a3, .int .i64 a4, .int .i64 a5, .int .i64 a6]).cell 2 rfl
    have xsD2 := fun o : Obj => ((Box.new 23 W [.int .i64 a1, .bool a2, .bool a3, .int .i64 a4, .int .i64 a5, .int .i64 a6]).alloc o).cell 2 rfl
    have xsC3 := (Box.new 23 W [.int .i64 a1, .bool a2, .bool a3, .int .i64 a4, .int .i64 a5, .int .i64 a6]).cell 3 rfl
    have xsD3 := fun o : Obj => ((Box.new 23 W [.int .i64 a1, .bool a2, .bool a3, .int .i64 a4, .int .i64 a5, .int .i64 a6]).alloc o).cell 3 rfl
    have xsC4 := (Box.new 23 W [.int .i64 a1, .bool a2, .bool a3, .int .i64 a4, .int .i64 a5, .int .i64 a6]).cell 4 rfl
    have xsD4 := fun o : Obj => ((Box.new 23 W [.int .i64 a1, .bool a2, .bool a3, .int .i64 a4, .int .i64 a5, .int .i64 a6]).alloc o).cell 4 rfl
    have xsC5 := (Box.new 23 W [.int .i64 a1, .bool a2, .bool a3, .int .i64 a4, .int .i64 a5, .int .i64 a6]).cell 5 rfl
    have xsD5 := fun o : Obj => ((Box.new 23 W [.int .i64 a1, .bool a2, .bool a3, .int .i64 a4, .int .i64 a5, .int .i64 a6]).alloc o).cell 5 rfl
    go_enter Try.func8, Try.ntmps8
    obtain ⟨xs0, xsz0, xs1, xsz1, xs2, xsz2, xs3, xsz3, xs4, xsz4, xs5, xsz5⟩ := xs.f6
    obtain ⟨xt0, xtz0, xt1, xtz1, xt2, xtz2, xt3, xtz3, xt4, xtz4, xt5, xtz5⟩ := xt.f6
    go_wp2_with fail
    clear hw2 xsC0 xsD0 xsC1 xsD1 xsC2 xsD2 xsC3 xsD3 xsC4 xsD4 xsC5 xsD5
    refine (TL.out _).mono ?_
    rintro e V1 ⟨rfl, hk⟩
    clear xs0 xsz0 xs1 xsz1 xs2 xsz2 xs3 xsz3 xs4 xsz4 xs5 xsz5 xt0 xtz0 xt1 xtz1 xt2 xtz2 xt3 xtz3 xt4 xtz4 xt5 xtz5
    replace hB := below_seq hB hk
    replace xs := xs.seq hk
    replace xt := xt.seq hk
    clear hk
    obtain ⟨xs0, xsz0, xs1, xsz1, xs2, xsz2, xs3, xsz3, xs4, xsz4, xs5, xsz5⟩ := xs.f6
    obtain ⟨xt0, xtz0, xt1, xtz1, xt2, xtz2, xt3, xtz3, xt4, xtz4, xt5, xtz5⟩ := xt.f6
    go_wp2_with fail
    refine (shown14 _).mono ?_
    rintro e V2 ⟨rfl, hk⟩
    clear xs0 xsz0 xs1 xsz1 xs2 xsz2 xs3 xsz3 xs4 xsz4 xs5 xsz5 xt0 xtz0 xt1 xtz1 xt2 xtz2 xt3 xtz3 xt4 xtz4 xt5 xtz5
    replace hB := below_seq hB hk
    replace xs := xs.seq hk
    replace xt := xt.seq hk
    clear hk
    obtain ⟨xs0, xsz0, xs1, xsz1, xs2, xsz2, xs3, xsz3, xs4, xsz4, xs5, xsz5⟩ := xs.f6
    obtain ⟨xt0, xtz0, xt1, xtz1, xt2, xtz2, xt3, xtz3, xt4, xtz4, xt5, xtz5⟩ := xt.f6
    go_wp2
    go_ret
    exact ⟨rfl, hB⟩
  · cases M
    · skip
      clear hpq
      have hB : Below W.heap.size W ((W.alloc (.cells #[.int .i64 a1, .bool a2, .bool a3, .int .i64 a4, .int .i64 a5, .int .i64 a6] 23)).alloc (.cells #[.int .i64 a1, .bool (!a2), .bool a3, .int .i64 a4, .int .i64 a5, .int .i64 a6] 23)) := (((Below.refl _ _).alloc (Nat.le_refl _) _).alloc (by simp) _)
      have xs := ((Box.new 23 W [.int .i64 a1, .bool a2, .bool a3, .int .i64 a4, .int .i64 a5, .int .i64 a6]).alloc (.cells #[.int .i64 a1, .bool (!a2), .bool a3, .int .i64 a4, .int .i64 a5, .int .i64 a6] 23))
      have xt : Box 23 ((W.alloc (.cells #[.int .i64 a1, .bool a2, .bool a3, .int .i64 a4, .int .i64 a5, .int .i64 a6] 23)).alloc (.cells #[.int .i64 a1, .bool (!a2), .bool a3, .int .i64 a4, .int .i64 a5, .int .i64 a6] 23)) (W.heap.size + 1) [.int .i64 a1, .bool (!a2), .bool a3, .int .i64 a4, .int .i64 a5, .int .i64 a6] := by have h := (Box.new 23 (W.alloc (.cells #[.int .i64 a1, .bool a2, .bool a3, .int .i64 a4, .int .i64 a5, .int .i64 a6] 23)) [.int .i64 a1, .bool (!a2), .bool a3, .int .i64 a4, .int .i64 a5, .int .i64 a6]); rwa [World.size_alloc] at h
      have le_xt : W.heap.size ≤ W.heap.size + 1 := by omega
      have xsC0 := (Box.new 23 W [.int .i64 a1, .bool a2, .bool a3, .int .i64 a4, .int .i64 a5, .int .i64 a6]).cell 0 rfl
      have xsD0 := fun o : Obj => ((Box.new 23 W [.int .i64 a1, .bool a2, .bool a3, .int .i64 a4, .int .i64 a5, .int .i64 a6]).alloc o).cell 0 rfl
      have xsC1 := (Box.new 23 W [.int .i64 a1, .bool a2, .bool a3, .int .i64 a4, .int .i64 a5, .int .i64 a6]).cell 1 rfl
      have xsD1 := fun o : Obj => ((Box.new 23 W [.int .i64 a1, .bool a2, .bool a3, .int .i64 a4, .int .i64 a5, .int .i64 a6]).alloc o).cell 1 rfl
      have xsC2 := (Box.new 23 W [.int .i64 a1, .bool a2, .bool a3, .int .i64 a4, .int .i64 a5, .int .i64 a6]).cell 2 rfl
      have xsD2 := fun o : Obj => ((Box.new 23 W [.int .i64 a1, .bool a2, .bool a3, .int .i64 a4, .int .i64 a5, .int .i64 a6]).alloc o).cell 2 rfl
      have xsC3 := (Box.new 23 W [.int .i64 a1, .bool a2, .bool a3, .int .i64 a4, .int .i64 a5, .int .i64 a6]).cell 3 rfl
      have xsD3 := fun o : Obj => ((Box.new 23 W [.int .i64 a1, .bool a2, .bool a3, .int .i64 a4, .int .i64 a5, .int .i64 a6]).alloc o).cell 3 rfl
      have xsC4 := (Box.new 23 W [.int .i64 a1, .bool a2, .bool a3, .int .i64 a4, .int .i64 a5, .int .i64 a6]).cell 4 rfl
      have xsD4 := fun o : Obj => ((Box.new 23 W [.int .i64 a1, .bool a2, .bool a3, .int .i64 a4, .int .i64 a5, .int .i64 a6]).alloc o).cell 4 rfl
      have xsC5 := (Box.new 23 W [.int .i64 a1, .bool a2, .bool a3, .int .i64 a4, .int .i64 a5, .int .i64 a6]).cell 5 rfl
      have xsD5 := fun o : Obj => ((Box.new 23 W [.int .i64 a1, .bool a2, .bool a3, .int .i64 a4, .int .i64 a5, .int .i64 a6]).alloc o).cell 5 rfl
      go_enter Try.func8, Try.ntmps8
      obtain ⟨xs0, xsz0, xs1, xsz1, xs2, xsz2, xs3, xsz3, xs4, xsz4, xs5, xsz5⟩ := xs.f6
      obtain ⟨xt0, xtz0, xt1, xtz1, xt2, xtz2, xt3, xtz3, xt4, xtz4, xt5, xtz5⟩ := xt.f6
      go_wp2_with fail
      clear hw2 xsC0 xsD0 xsC1 xsD1 xsC2 xsD2 xsC3 xsD3 xsC4 xsD4 xsC5 xsD5
      refine (TL.out _).mono ?_
      rintro e V1 ⟨rfl, hk⟩
      clear xs0 xsz0 xs1 xsz1 xs2 xsz2 xs3 xsz3 xs4 xsz4 xs5 xsz5 xt0 xtz0 xt1 xtz1 xt2 xtz2 xt3 xtz3 xt4 xtz4 xt5 xtz5
      replace hB := below_seq hB hk
      replace xs := xs.seq hk
      replace xt := xt.seq hk
      clear hk
      obtain ⟨xs0, xsz0, xs1, xsz1, xs2, xsz2, xs3, xsz3, xs4, xsz4, xs5, xsz5⟩ := xs.f6
      obtain ⟨xt0, xtz0, xt1, xtz1, xt2, xtz2, xt3, xtz3, xt4, xtz4, xt5, xtz5⟩ := xt.f6
      go_wp2_with fail
      refine (TM.out _).mono ?_
      rintro e V2 ⟨rfl, hk⟩
      clear xs0 xsz0 xs1 xsz1 xs2 xsz2 xs3 xsz3 xs4 xsz4 xs5 xsz5 xt0 xtz0 xt1 xtz1 xt2 xtz2 xt3 xtz3 xt4 xtz4 xt5 xtz5
      replace hB := below_seq hB hk
      replace xs := xs.seq hk
      replace xt := xt.seq hk
      clear hk
      obtain ⟨xs0, xsz0, xs1, xsz1, xs2, xsz2, xs3, xsz3, xs4, xsz4, xs5, xsz5⟩ := xs.f6
      obtain ⟨xt0, xtz0, xt1, xtz1, xt2, xtz2, xt3, xtz3, xt4, xtz4, xt5, xtz5⟩ := xt.f6
      go_wp2_with fail
      refine (shown14 _).mono ?_
      rintro e V3 ⟨rfl, hk⟩
      clear xs0 xsz0 xs1 xsz1 xs2 xsz2 xs3 xsz3 xs4 xsz4 xs5 xsz5 xt0 xtz0 xt1 xtz1 xt2 xtz2 xt3 xtz3 xt4 xtz4 xt5 xtz5
      replace hB := below_seq hB hk
      replace xs := xs.seq hk
      replace xt := xt.seq hk
      clear hk
      obtain ⟨xs0, xsz0, xs1, xsz1, xs2, xsz2, xs3, xsz3, xs4, xsz4, xs5, xsz5⟩ := xs.f6
      obtain ⟨xt0, xtz0, xt1, xtz1, xt2, xtz2, xt3, xtz3, xt4, xtz4, xt5, xtz5⟩ := xt.f6
      go_wp2
      go_ret
      exact ⟨rfl, hB⟩
    · replace hpq := hpq rfl rfl
      have np : ((P : Int) == (Q : Int)) = false := beq_eq_false_iff_ne.2 (fun h => hpq (Int.ofNat_inj.1 h))
      have e2 : ¬ a2 = !a2 := by cases a2 <;> decide
      clear hpq
      have hB : Below W.heap.size W ((W.alloc (.cells #[.int .i64 a1, .bool a2, .bool a3, .int .i64 a4, .int .i64 a5, .int .i64 a6] 23)).alloc (.cells #[.int .i64 a1, .bool (!a2), .bool a3, .int .i64 a4, .int .i64 a5, .int .i64 a6] 23)) := (((Below.refl _ _).alloc (Nat.le_refl _) _).alloc (by simp) _)
      have xs := ((Box.new 23 W [.int .i64 a1, .bool a2, .bool a3, .int .i64 a4, .int .i64 a5, .int .i64 a6]).alloc (.cells #[.int .i64 a1, .bool (!a2), .bool a3, .int .i64 a4, .int .i64 a5, .int .i64 a6] 23))
      have xt : Box 23 ((W.alloc (.cells #[.int .i64 a1, .bool a2, .bool a3, .int .i64 a4, .int .i64 a5, .int .i64 a6] 23)).alloc (.cells #[.int .i64 a1, .bool (!a2), .bool a3, .int .i64 a4, .int .i64 a5, .int .i64 a6] 23)) (W.heap.size + 1) [.int .i64 a1, .bool (!a2), .bool a3, .int .i64 a4, .int .i64 a5, .int .i64 a6] := by have h := (Box.new 23 (W.alloc (.cells #[.int .i64 a1, .bool a2, .bool a3, .int .i64 a4, .int .i64 a5, .int .i64 a6] 23)) [.int .i64 a1, .bool (!a2), .bool a3, .int .i64 a4, .int .i64 a5, .int .i64 a6]); rwa [World.size_alloc] at h
      have le_xt : W.heap.size ≤ W.heap.size + 1 := by omega
      have xsC0 := (Box.new 23 W [.int .i64 a1, .bool a2, .bool a3, .int .i64 a4, .int .i64 a5, .int .i64 a6]).cell 0 rfl
      have xsD0 := fun o : Obj => ((Box.new 23 W [.int .i64 a1, .bool a2, .bool a3, .int .i64 a4, .int .i64 a5, .int .i64 a6]).alloc o).cell 0 rfl
      have xsC1 := (Box.new 23 W [.int .i64 a1, .bool a2, .bool a3, .int .i64 a4, .int .i64 a5, .int .i64 a6]).cell 1 rfl
      have xsD1 := fun o : Obj => ((Box.new 23 W [.int .i64 a1, .bool a2, .bool a3, .int .i64 a4, .int .i64 a5, .int .i64 a6]).alloc o).cell 1 rfl
      have xsC2 := (Box.new 23 W [.int .i64 a1, .bool a2, .bool a3, .int .i64 a4, .int .i64 a5, .int .i64 a6]).cell 2 rfl
      have xsD2 := fun o : Obj => ((Box.new 23 W [.int .i64 a1, .bool a2, .bool a3, .int .i64 a4, .int .i64 a5, .int .i64 a6]).alloc o).cell 2 rfl
      have xsC3 := (Box.new 23 W [.int .i64 a1, .bool a2, .bool a3, .int .i64 a4, .int .i64 a5, .int .i64 a6]).cell 3 rfl
      have xsD3 := fun o : Obj => ((Box.new 23 W [.int .i64 a1, .bool a2, .bool a3, .int .i64 a4, .int .i64 a5, .int .i64 a6]).alloc o).cell 3 rfl
      have xsC4 := (Box.new 23 W [.int .i64 a1, .bool a2, .bool a3, .int .i64 a4, .int .i64 a5, .int .i64 a6]).cell 4 rfl
      have xsD4 := fun o : Obj => ((Box.new 23 W [.int .i64 a1, .bool a2, .bool a3, .int .i64 a4, .int .i64 a5, .int .i64 a6]).alloc o).cell 4 rfl
      have xsC5 := (Box.new 23 W [.int .i64 a1, .bool a2, .bool a3, .int .i64 a4, .int .i64 a5, .int .i64 a6]).cell 5 rfl
      have xsD5 := fun o : Obj => ((Box.new 23 W [.int .i64 a1, .bool a2, .bool a3, .int .i64 a4, .int .i64 a5, .int .i64 a6]).alloc o).cell 5 rfl
      go_enter Try.func8, Try.ntmps8
      obtain ⟨xs0, xsz0, xs1, xsz1, xs2, xsz2, xs3, xsz3, xs4, xsz4, xs5, xsz5⟩ := xs.f6
      obtain ⟨xt0, xtz0, xt1, xtz1, xt2, xtz2, xt3, xtz3, xt4, xtz4, xt5, xtz5⟩ := xt.f6
      go_wp2_with fail
      clear hw2 xsC0 xsD0 xsC1 xsD1 xsC2 xsD2 xsC3 xsD3 xsC4 xsD4 xsC5 xsD5
      refine (TL.out _).mono ?_
      rintro e V1 ⟨rfl, hk⟩
      clear xs0 xsz0 xs1 xsz1 xs2 xsz2 xs3 xsz3 xs4 xsz4 xs5 xsz5 xt0 xtz0 xt1 xtz1 xt2 xtz2 xt3 xtz3 xt4 xtz4 xt5 xtz5
      replace hB := below_seq hB hk
      replace xs := xs.seq hk
      replace xt := xt.seq hk
      clear hk
      obtain ⟨xs0, xsz0, xs1, xsz1, xs2, xsz2, xs3, xsz3, xs4, xsz4, xs5, xsz5⟩ := xs.f6
      obtain ⟨xt0, xtz0, xt1, xtz1, xt2, xtz2, xt3, xtz3, xt4, xtz4, xt5, xtz5⟩ := xt.f6
      go_wp2_with fail
      refine (TM.out _).mono ?_
      rintro e V2 ⟨rfl, hk⟩
      clear xs0 xsz0 xs1 xsz1 xs2 xsz2 xs3 xsz3 xs4 xsz4 xs5 xsz5 xt0 xtz0 xt1 xtz1 xt2 xtz2 xt3 xtz3 xt4 xtz4 xt5 xtz5
      replace hB := below_seq hB hk
      replace xs := xs.seq hk
      replace xt := xt.seq hk
      clear hk
      obtain ⟨xs0, xsz0, xs1, xsz1, xs2, xsz2, xs3, xsz3, xs4, xsz4, xs5, xsz5⟩ := xs.f6
      obtain ⟨xt0, xtz0, xt1, xtz1, xt2, xtz2, xt3, xtz3, xt4, xtz4, xt5, xtz5⟩ := xt.f6
      go_wp2_with fail
      refine (shown14 _).mono ?_
      rintro e V3 ⟨rfl, hk⟩
      clear xs0 xsz0 xs1 xsz1 xs2 xsz2 xs3 xsz3 xs4 xsz4 xs5 xsz5 xt0 xtz0 xt1 xtz1 xt2 xtz2 xt3 xtz3 xt4 xtz4 xt5 xtz5
      replace hB := below_seq hB hk
      replace xs := xs.seq hk
      replace xt := xt.seq hk
      clear hk
      obtain ⟨xs0, xsz0, xs1, xsz1, xs2, xsz2, xs3, xsz3, xs4, xsz4, xs5, xsz5⟩ := xs.f6
      obtain ⟨xt0, xtz0, xt1, xtz1, xt2, xtz2, xt3, xtz3, xt4, xtz4, xt5, xtz5⟩ := xt.f6
      go_wp2_with fail
      clear xs0 xsz0 xs1 xsz1 xs2 xsz2 xs3 xsz3 xs4 xsz4 xs5 xsz5 xt0 xtz0 xt1 xtz1 xt2 xtz2 xt3 xtz3 xt4 xtz4 xt5 xtz5
      replace hB := hB.drew
      replace xs := xs.drew
      replace xt := xt.drew
      refine wp_region_held_drew (S := fun w' => w'.cell? ⟨W.heap.size, 0, none⟩ = some (.int .i64 a1) ∧ w'.cell? ⟨W.heap.size, 1, none⟩ = some (.bool a2) ∧ w'.cell? ⟨W.heap.size, 2, none⟩ = some (.bool a3) ∧ w'.cell? ⟨W.heap.size, 3, none⟩ = some (.int .i64 a4) ∧ w'.cell? ⟨W.heap.size, 4, none⟩ = some (.int .i64 a5) ∧ w'.cell? ⟨W.heap.size, 5, none⟩ = some (.int .i64 a6) ∧ w'.cell? ⟨W.heap.size + 1, 0, none⟩ = some (.int .i64 a1) ∧ w'.cell? ⟨W.heap.size + 1, 1, none⟩ = some (.bool (!a2)) ∧ w'.cell? ⟨W.heap.size + 1, 2, none⟩ = some (.bool a3) ∧ w'.cell? ⟨W.heap.size + 1, 3, none⟩ = some (.int .i64 a4) ∧ w'.cell? ⟨W.heap.size + 1, 4, none⟩ = some (.int .i64 a5) ∧ w'.cell? ⟨W.heap.size + 1, 5, none⟩ = some (.int .i64 a6)) (by kernel_rfl) ?_ (fun hHeld => ?_)
      · exact ⟨xs.cell 0 rfl, xs.cell 1 rfl, xs.cell 2 rfl, xs.cell 3 rfl, xs.cell 4 rfl, xs.cell 5 rfl, xt.cell 0 rfl, xt.cell 1 rfl, xt.cell 2 rfl, xt.cell 3 rfl, xt.cell 4 rfl, xt.cell 5 rfl⟩
      generalize V3.drew = V4 at *
      refine tk 0 (v := ?_) rfl (Or.inl ⟨by rfl, ?_⟩) ?_; rotate_left
      · intro w hSw; (try dsimp only at hSw); go_simp; try with_reducible rfl
      try simp only [Act.put, l1, l2, l3, l4, l5, l6]
      refine tk 2 (v := ?_) rfl (Or.inl ⟨by rfl, ?_⟩) ?_; rotate_left
      · intro w hSw; (try dsimp only at hSw); go_simp; try with_reducible rfl
      try simp only [Act.put, l1, l2, l3, l4, l5, l6]
      refine tk 5 (v := ?_) rfl (Or.inl ⟨by rfl, ?_⟩) ?_; rotate_left
      · intro w hSw; (try dsimp only at hSw); go_simp; try with_reducible rfl
      try simp only [Act.put, l1, l2, l3, l4, l5, l6]
      refine tk 6 (v := ?_) rfl (Or.inl ⟨by rfl, ?_⟩) ?_; rotate_left
      · intro w hSw; (try dsimp only at hSw); go_simp; try with_reducible rfl
      try simp only [Act.put, l1, l2, l3, l4, l5, l6]
      refine tk 7 (v := ?_) rfl (Or.inl ⟨by rfl, ?_⟩) ?_; rotate_left
      · intro w hSw; (try dsimp only at hSw); go_simp; try with_reducible rfl
      try simp only [Act.put, l1, l2, l3, l4, l5, l6]
      refine wpAnyH_ready (rs := [1]) (by kernel_rfl) (by simp) ?_
      refine AllReadyH.cons rfl (fun K hK => ?_) AllReadyH.nil
      obtain ⟨xs0, xsz0, xs1, xsz1, xs2, xsz2, xs3, xsz3, xs4, xsz4, xs5, xsz5⟩ := xs.f6
      obtain ⟨xt0, xtz0, xt1, xtz1, xt2, xtz2, xt3, xtz3, xt4, xtz4, xt5, xtz5⟩ := xt.f6
      go_simp
      refine (TP.out _).mono ?_
      rintro e V5 ⟨rfl, hk⟩
      clear xs0 xsz0 xs1 xsz1 xs2 xsz2 xs3 xsz3 xs4 xsz4 xs5 xsz5 xt0 xtz0 xt1 xtz1 xt2 xtz2 xt3 xtz3 xt4 xtz4 xt5 xtz5
      replace hB := below_seq hB hk
      replace xs := xs.seq hk
      replace xt := xt.seq hk
      clear hk
      obtain ⟨xs0, xsz0, xs1, xsz1, xs2, xsz2, xs3, xsz3, xs4, xsz4, xs5, xsz5⟩ := xs.f6
      obtain ⟨xt0, xtz0, xt1, xtz1, xt2, xtz2, xt3, xtz3, xt4, xtz4, xt5, xtz5⟩ := xt.f6
      try go_wp2_with fail
      clear xs0 xsz0 xs1 xsz1 xs2 xsz2 xs3 xsz3 xs4 xsz4 xs5 xsz5 xt0 xtz0 xt1 xtz1 xt2 xtz2 xt3 xtz3 xt4 xtz4 xt5 xtz5
      clear hHeld
      refine hK.out _ _ ?_ (fun hHeld => ?_)
      · exact ⟨xs.cell 0 rfl, xs.cell 1 rfl, xs.cell 2 rfl, xs.cell 3 rfl, xs.cell 4 rfl, xs.cell 5 rfl, xt.cell 0 rfl, xt.cell 1 rfl, xt.cell 2 rfl, xt.cell 3 rfl, xt.cell 4 rfl, xt.cell 5 rfl⟩
      clear hK K
      try simp only [Act.put, l1, l2, l3, l4, l5, l6]
      refine wpAnyH_ready (rs := [3]) (by kernel_rfl) (by simp) ?_
      refine AllReadyH.cons rfl (fun K hK => ?_) AllReadyH.nil
      obtain ⟨xs0, xsz0, xs1, xsz1, xs2, xsz2, xs3, xsz3, xs4, xsz4, xs5, xsz5⟩ := xs.f6
      obtain ⟨xt0, xtz0, xt1, xtz1, xt2, xtz2, xt3, xtz3, xt4, xtz4, xt5, xtz5⟩ := xt.f6
      go_simp
      refine (TQ.out _).mono ?_
      rintro e V6 ⟨rfl, hk⟩
      clear xs0 xsz0 xs1 xsz1 xs2 xsz2 xs3 xsz3 xs4 xsz4 xs5 xsz5 xt0 xtz0 xt1 xtz1 xt2 xtz2 xt3 xtz3 xt4 xtz4 xt5 xtz5
      replace hB := below_seq hB hk
      replace xs := xs.seq hk
      replace xt := xt.seq hk
      clear hk
      obtain ⟨xs0, xsz0, xs1, xsz1, xs2, xsz2, xs3, xsz3, xs4, xsz4, xs5, xsz5⟩ := xs.f6
      obtain ⟨xt0, xtz0, xt1, xtz1, xt2, xtz2, xt3, xtz3, xt4, xtz4, xt5, xtz5⟩ := xt.f6
      try go_wp2_with fail
      clear xs0 xsz0 xs1 xsz1 xs2 xsz2 xs3 xsz3 xs4 xsz4 xs5 xsz5 xt0 xtz0 xt1 xtz1 xt2 xtz2 xt3 xtz3 xt4 xtz4 xt5 xtz5
      clear hHeld
      refine hK.out _ _ ?_ (fun hHeld => ?_)
      · exact ⟨xs.cell 0 rfl, xs.cell 1 rfl, xs.cell 2 rfl, xs.cell 3 rfl, xs.cell 4 rfl, xs.cell 5 rfl, xt.cell 0 rfl, xt.cell 1 rfl, xt.cell 2 rfl, xt.cell 3 rfl, xt.cell 4 rfl, xt.cell 5 rfl⟩
      clear hK K
      try simp only [Act.put, l1, l2, l3, l4, l5, l6]
      refine tk 4 (v := ?_) rfl (Or.inl ⟨by rfl, ?_⟩) ?_; rotate_left
      · intro w hSw; (try dsimp only at hSw); go_simp; try with_reducible rfl
      try simp only [Act.put, l1, l2, l3, l4, l5, l6]
      refine tk 8 (v := ?_) rfl (Or.inl ⟨by rfl, ?_⟩) ?_; rotate_left
      · intro w hSw; (try dsimp only at hSw); go_simp; try with_reducible rfl
      try simp only [Act.put, l1, l2, l3, l4, l5, l6]
      refine tk 9 (v := ?_) rfl (Or.inl ⟨by rfl, ?_⟩) ?_; rotate_left
      · intro w hSw; (try dsimp only at hSw); go_simp; try with_reducible rfl
      try simp only [Act.put, l1, l2, l3, l4, l5, l6]
      refine wpAnyH_done (by kernel_rfl) ?_ _
      clear hHeld
      obtain ⟨xs0, xsz0, xs1, xsz1, xs2, xsz2, xs3, xsz3, xs4, xsz4, xs5, xsz5⟩ := xs.f6
      obtain ⟨xt0, xtz0, xt1, xtz1, xt2, xtz2, xt3, xtz3, xt4, xtz4, xt5, xtz5⟩ := xt.f6
      go_wp2
      go_ret
      exact ⟨rfl, hB⟩

set_option maxRecDepth 100000 in
set_option maxHeartbeats 4000000 in
theorem field2 (a1 : Int) (a2 a3 : Bool) (a4 a5 a6 n : Int) (which : UInt8) (L M : Bool) (P Q : Nat) (W : World) (hw : which.toNat % 6 = 2) (TL : ∀ W : World, Gives Try.prog 11 #[.agg #[.int .i64 a1, .bool a2, .bool a3, .int .i64 a4, .int .i64 a5, .int .i64 a6]] W (.bool L)) (TM : ∀ W : World, Gives Try.prog 11 #[.agg #[.int .i64 a1, .bool a2, .bool (!a3), .int .i64 a4, .int .i64 a5, .int .i64 a6]] W (.bool M)) (TP : ∀ W : World, Gives Try.prog 13 #[.agg #[.int .i64 a1, .bool a2, .bool a3, .int .i64 a4, .int .i64 a5, .int .i64 a6]] W (.int .u64 (P : Int))) (TQ : ∀ W : World, Gives Try.prog 13 #[.agg #[.int .i64 a1, .bool a2, .bool (!a3), .int .i64 a4, .int .i64 a5, .int .i64 a6]] W (.int .u64 (Q : Int))) (hpq : L = true → M = true → ¬ P = Q) :
    Gives Try.prog 8 #[.agg #[.int .i64 a1, .bool a2, .bool a3, .int .i64 a4, .int .i64 a5, .int .i64 a6], .int .u8 (which.toNat : Int), .int .i64 n] W (.bool true) := by
  have hw2 : (which.toNat : Int) % 6 = 2 := by omega
  clear hw
  replace TL := Lib.hid TL
  replace TM := Lib.hid TM
  replace TP := Lib.hid TP
  replace TQ := Lib.hid TQ
  cases L
  · skip
    clear hpq
    have hB : Below W.heap.size W ((W.alloc (.cells #[.int .i64 a1, .bool a2, .bool a3, .int .i64 a4, .int .i64 a5, .int .i64 a6] 23)).alloc (.cells #[.int .i64 a1, .bool a2, .bool (!a3), .int .i64 a4, .int .i64 a5, .int .i64 a6] 23)) := (((Below.refl _ _).alloc (Nat.le_refl _) _).alloc (by simp) _)
    have xs := ((Box.new 23 W [.int .i64 a1, .bool a2, .bool a3, .int .i64 a4, .int .i64 a5, .int .i64 a6]).alloc (.cells #[.int .i64 a1, .bool a2, .bool (!a3), .int .i64 a4, .int .i64 a5, .int .i64 a6] 23))
    have xt : Box 23 ((W.alloc (.cells #[.int .i64 a1, .bool a2, .bool a3, .int .i64 a4, .int .i64 a5, .int .i64 a6] 23)).alloc (.cells #[.int .i64 a1, .bool a2, .bool (!a3), .int .i64 a4, .int .i64 a5, .int .i64 a6] 23)) (W.heap.size + 1) [.int .i64 a1, .bool a2, .bool (!a3), .int .i64 a4, .int .i64 a5, .int .i64 a6] := by have h := (Box.new 23 (W.alloc (.cells #[.int .i64 a1, .bool a2, .bool a3, .int .i64 a4, .int .i64 a5, .int .i64 a6] 23)) [.int .i64 a1, .bool a2, .bool (!a3), .int .i64 a4, .int .i64 a5, .int .i64 a6]); rwa [World.size_alloc] at h
    have le_xt : W.heap.size ≤ W.heap.size + 1 := by omega
    have xsC0 := (Box.new 23 W [.int .i64 a1, .bool a2, .bool a3, .int .i64 a4, .int .i64 a5, .int .i64 a6]).cell 0 rfl
    have xsD0 := fun o : Obj => ((Box.new 23 W [.int .i64 a1, .bool a2, .bool a3, .int .i64 a4, .int .i64 a5, .int .i64 a6]).alloc o).cell 0 rfl
    have xsC1 := (Box.new 23 W [.int .i64 a1, .bool a2, .bool a3, .int .i64 a4, .int .i64 a5, .int .i64 a6]).cell 1 rfl
    have xsD1 := fun o : Obj => ((Box.new 23 W [.int .i64 a1, .bool a2, .bool a3, .int .i64 a4, .int .i64 a5, .int .i64 a6]).alloc o).cell 1 rfl
    have xsC2 := (Box.new 23 W [.int .i64 a1, .bool a2, .bool a3, .int .i64 a4, .int .i64 a5, .int .i64 a6]).cell 2 rfl
    have xsD2 := fun o : Obj => ((Box.new 23 W [.int .i64 a1, .bool a2, .bool a3, .int .i64 a4, .int .i64 a5, .int .i64 a6]).alloc o).cell 2 rfl
    have xsC3 := (Box.new 23 W [.int .i64 a1, .bool a2, .bool a3, .int .i64 a4, .int .i64 a5, .int .i64 a6]).cell 3 rfl
    have xsD3 := fun o : Obj => ((Box.new 23 W [.int .i64 a1, .bool a2, .bool a3, .int .i64 a4, .int .i64 a5, .int .i64 a6]).alloc o).cell 3 rfl
    have xsC4 := (Box.new 23 W [.int .i64 a1, .bool a2, .bool a3, .int .i64 a4, .int .i64 a5, .int .i64 a6]).cell 4 rfl
    have xsD4 := fun o : Obj => ((Box.new 23 W [.int .i64 a1, .bool a2, .bool a3, .int .i64 a4, .int .i64 a5, .int .i64 a6]).alloc o).cell 4 rfl
    have xsC5 := (Box.new 23 W [.int .i64 a1, .bool a2, .bool a3, .int .i64 a4, .int .i64 a5, .int .i64 a6]).cell 5 rfl
    have xsD5 := fun o : Obj => ((Box.new 23 W [.int .i64 a1, .bool a2, .bool a3, .int .i64 a4, .int .i64 a5, .int .i64 a6]).alloc o).cell 5 rfl
    go_enter Try.func8, Try.ntmps8
    obtain ⟨xs0, xsz0, xs1, xsz1, xs2, xsz2, xs3, xsz3, xs4, xsz4, xs5, xsz5⟩ := xs.f6
    obtain ⟨xt0, xtz0, xt1, xtz1, xt2, xtz2, xt3, xtz3, xt4, xtz4, xt5, xtz5⟩ := xt.f6
    go_wp2_with fail
    clear hw2 xsC0 xsD0 xsC1 xsD1 xsC2 xsD2 xsC3 xsD3 xsC4 xsD4 xsC5 xsD5
    refine (TL.out _).mono ?_
    rintro e V1 ⟨rfl, hk⟩
    clear xs0 xsz0 xs1 xsz1 xs2 xsz2 xs3 xsz3 xs4 xsz4 xs5 xsz5 xt0 xtz0 xt1 xtz1 xt2 xtz2 xt3 xtz3 xt4 xtz4 xt5 xtz5
    replace hB := below_seq hB hk
    replace xs := xs.seq hk
    replace xt := xt.seq hk
    clear hk
    obtain ⟨xs0, xsz0, xs1, xsz1, xs2, xsz2, xs3, xsz3, xs4, xsz4, xs5, xsz5⟩ := xs.f6
    obtain ⟨xt0, xtz0, xt1, xtz1, xt2, xtz2, xt3, xtz3, xt4, xtz4, xt5, xtz5⟩ := xt.f6
    go_wp2_with fail
    refine (shown14 _).mono ?_
    rintro e V2 ⟨rfl, hk⟩
    clear xs0 xsz0 xs1 xsz1 xs2 xsz2 xs3 xsz3 xs4 xsz4 xs5 xsz5 xt0 xtz0 xt1 xtz1 xt2 xtz2 xt3 xtz3 xt4 xtz4 xt5 xtz5
    replace hB := below_seq hB hk
    replace xs := xs.seq hk
    replace xt := xt.seq hk
    clear hk
    obtain ⟨xs0, xsz0, xs1, xsz1, xs2, xsz2, xs3, xsz3, xs4, xsz4, xs5, xsz5⟩ := xs.f6
    obtain ⟨xt0, xtz0, xt1, xtz1, xt2, xtz2, xt3, xtz3, xt4, xtz4, xt5, xtz5⟩ := xt.f6
    go_wp2
    go_ret
    exact ⟨rfl, hB⟩
  · cases M
    · skip
      clear hpq
      have hB : Below W.heap.size W ((W.alloc (.cells #[.int .i64 a1, .bool a2, .bool a3, .int .i64 a4, .int .i64 a5, .int .i64 a6] 23)).alloc (.cells #[.int .i64 a1, .bool a2, .bool (!a3), .int .i64 a4, .int .i64 a5, .int .i64 a6] 23)) := (((Below.refl _ _).alloc (Nat.le_refl _) _).alloc (by simp) _)
      have xs := ((Box.new 23 W [.int .i64 a1, .bool a2, .bool a3, .int .i64 a4, .int .i64 a5, .int .i64 a6]).alloc (.cells #[.int .i64 a1, .bool a2, .bool (!a3), .int .i64 a4, .int .i64 a5, .int .i64 a6] 23))
      have xt : Box 23 ((W.alloc (.cells #[.int .i64 a1, .bool a2, .bool a3, .int .i64 a4, .int .i64 a5, .int .i64 a6] 23)).alloc (.cells #[.int .i64 a1, .bool a2, .bool (!a3), .int .i64 a4, .int .i64 a5, .int .i64 a6] 23)) (W.heap.size + 1) [.int .i64 a1, .bool a2, .bool (!a3), .int .i64 a4, .int .i64 a5, .int .i64 a6] := by have h := (Box.new 23 (W.alloc (.cells #[.int .i64 a1, .bool a2, .bool a3, .int .i64 a4, .int .i64 a5, .int .i64 a6] 23)) [.int .i64 a1, .bool a2, .bool (!a3), .int .i64 a4, .int .i64 a5, .int .i64 a6]); rwa [World.size_alloc] at h
      have le_xt : W.heap.size ≤ W.heap.size + 1 := by omega
      have xsC0 := (Box.new 23 W [.int .i64 a1, .bool a2, .bool a3, .int .i64 a4, .int .i64 a5, .int .i64 a6]).cell 0 rfl
      have xsD0 := fun o : Obj => ((Box.new 23 W [.int .i64 a1, .bool a2, .bool a3, .int .i64 a4, .int .i64 a5, .int .i64 a6]).alloc o).cell 0 rfl
      have xsC1 := (Box.new 23 W [.int .i64 a1, .bool a2, .bool a3, .int .i64 a4, .int .i64 a5, .int .i64 a6]).cell 1 rfl
      have xsD1 := fun o : Obj => ((Box.new 23 W [.int .i64 a1, .bool a2, .bool a3, .int .i64 a4, .int .i64 a5, .int .i64 a6]).alloc o).cell 1 rfl
      have xsC2 := (Box.new 23 W [.int .i64 a1, .bool a2, .bool a3, .int .i64 a4, .int .i64 a5, .int .i64 a6]).cell 2 rfl
      have xsD2 := fun o : Obj => ((Box.new 23 W [.int .i64 a1, .bool a2, .bool a3, .int .i64 a4, .int .i64 a5, .int .i64 a6]).alloc o).cell 2 rfl
      have xsC3 := (Box.new 23 W [.int .i64 a1, .bool a2, .bool a3, .int .i64 a4, .int .i64 a5, .int .i64 a6]).cell 3 rfl
      have xsD3 := fun o : Obj => ((Box.new 23 W [.int .i64 a1, .bool a2, .bool a3, .int .i64 a4, .int .i64 a5, .int .i64 a6]).alloc o).cell 3 rfl
      have xsC4 := (Box.new 23 W [.int .i64 a1, .bool a2, .bool a3, .int .i64 a4, .int .i64 a5, .int .i64 a6]).cell 4 rfl
      have xsD4 := fun o : Obj => ((Box.new 23 W [.int .i64 a1, .bool a2, .bool a3, .int .i64 a4, .int .i64 a5, .int .i64 a6]).alloc o).cell 4 rfl
      have xsC5 := (Box.new 23 W [.int .i64 a1, .bool a2, .bool a3, .int .i64 a4, .int .i64 a5, .int .i64 a6]).cell 5 rfl
      have xsD5 := fun o : Obj => ((Box.new 23 W [.int .i64 a1, .bool a2, .bool a3, .int .i64 a4, .int .i64 a5, .int .i64 a6]).alloc o).cell 5 rfl
      go_enter Try.func8, Try.ntmps8
      obtain ⟨xs0, xsz0, xs1, xsz1, xs2, xsz2, xs3, xsz3, xs4, xsz4, xs5, xsz5⟩ := xs.f6
      obtain ⟨xt0, xtz0, xt1, xtz1, xt2, xtz2, xt3, xtz3, xt4, xtz4, xt5, xtz5⟩ := xt.f6
      go_wp2_with fail
      clear hw2 xsC0 xsD0 xsC1 xsD1 xsC2 xsD2 xsC3 xsD3 xsC4 xsD4 xsC5 xsD5
      refine (TL.out _).mono ?_
      rintro e V1 ⟨rfl, hk⟩
      clear xs0 xsz0 xs1 xsz1 xs2 xsz2 xs3 xsz3 xs4 xsz4 xs5 xsz5 xt0 xtz0 xt1 xtz1 xt2 xtz2 xt3 xtz3 xt4 xtz4 xt5 xtz5
      replace hB := below_seq hB hk
      replace xs := xs.seq hk
      replace xt := xt.seq hk
      clear hk
      obtain ⟨xs0, xsz0, xs1, xsz1, xs2, xsz2, xs3, xsz3, xs4, xsz4, xs5, xsz5⟩ := xs.f6
      obtain ⟨xt0, xtz0, xt1, xtz1, xt2, xtz2, xt3, xtz3, xt4, xtz4, xt5, xtz5⟩ := xt.f6
      go_wp2_with fail
      refine (TM.out _).mono ?_
      rintro e V2 ⟨rfl, hk⟩
      clear xs0 xsz0 xs1 xsz1 xs2 xsz2 xs3 xsz3 xs4 xsz4 xs5 xsz5 xt0 xtz0 xt1 xtz1 xt2 xtz2 xt3 xtz3 xt4 xtz4 xt5 xtz5
      replace hB := below_seq hB hk
      replace xs := xs.seq hk
      replace xt := xt.seq hk
      clear hk
      obtain ⟨xs0, xsz0, xs1, xsz1, xs2, xsz2, xs3, xsz3, xs4, xsz4, xs5, xsz5⟩ := xs.f6
      obtain ⟨xt0, xtz0, xt1, xtz1, xt2, xtz2, xt3, xtz3, xt4, xtz4, xt5, xtz5⟩ := xt.f6
      go_wp2_with fail
      refine (shown14 _).mono ?_
      rintro e V3 ⟨rfl, hk⟩
      clear xs0 xsz0 xs1 xsz1 xs2 xsz2 xs3 xsz3 xs4 xsz4 xs5 xsz5 xt0 xtz0 xt1 xtz1 xt2 xtz2 xt3 xtz3 xt4 xtz4 xt5 xtz5
      replace hB := below_seq hB hk
      replace xs := xs.seq hk
      replace xt := xt.seq hk
      clear hk
      obtain ⟨xs0, xsz0, xs1, xsz1, xs2, xsz2, xs3, xsz3, xs4, xsz4, xs5, xsz5⟩ := xs.f6
      obtain ⟨xt0, xtz0, xt1, xtz1, xt2, xtz2, xt3, xtz3, xt4, xtz4, xt5, xtz5⟩ := xt.f6
      go_wp2
      go_ret
      exact ⟨rfl, hB⟩
    · replace hpq := hpq rfl rfl
      have np : ((P : Int) == (Q : Int)) = false := beq_eq_false_iff_ne.2 (fun h => hpq (Int.ofNat_inj.1 h))
      have e2 : ¬ a3 = !a3 := by cases a3 <;> decide
      clear hpq
      have hB : Below W.heap.size W ((W.alloc (.cells #[.int .i64 a1, .bool a2, .bool a3, .int .i64 a4, .int .i64 a5, .int .i64 a6] 23)).alloc (.cells #[.int .i64 a1, .bool a2, .bool (!a3), .int .i64 a4, .int .i64 a5, .int .i64 a6] 23)) := (((Below.refl _ _).alloc (Nat.le_refl _) _).alloc (by simp) _)
      have xs := ((Box.new 23 W [.int .i64 a1, .bool a2, .bool a3, .int .i64 a4, .int .i64 a5, .int .i64 a6]).alloc (.cells #[.int .i64 a1, .bool a2, .bool (!a3), .int .i64 a4, .int .i64 a5, .int .i64 a6] 23))
      have xt : Box 23 ((W.alloc (.cells #[.int .i64 a1, .bool a2, .bool a3, .int .i64 a4, .int .i64 a5, .int .i64 a6] 23)).alloc (.cells #[.int .i64 a1, .bool a2, .bool (!a3), .int .i64 a4, .int .i64 a5, .int .i64 a6] 23)) (W.heap.size + 1) [.int .i64 a1, .bool a2, .bool (!a3), .int .i64 a4, .int .i64 a5, .int .i64 a6] := by have h := (Box.new 23 (W.alloc (.cells #[.int .i64 a1, .bool a2, .bool a3, .int .i64 a4, .int .i64 a5, .int .i64 a6] 23)) [.int .i64 a1, .bool a2, .bool (!a3), .int .i64 a4, .int .i64 a5, .int .i64 a6]); rwa [World.size_alloc] at h
      have le_xt : W.heap.size ≤ W.heap.size + 1 := by omega
      have xsC0 := (Box.new 23 W [.int .i64 a1, .bool a2, .bool a3, .int .i64 a4, .int .i64 a5, .int .i64 a6]).cell 0 rfl
      have xsD0 := fun o : Obj => ((Box.new 23 W [.int .i64 a1, .bool a2, .bool a3, .int .i64 a4, .int .i64 a5, .int .i64 a6]).alloc o).cell 0 rfl
      have xsC1 := (Box.new 23 W [.int .i64 a1, .bool a2, .bool a3, .int .i64 a4, .int .i64 a5, .int .i64 a6]).cell 1 rfl
      have xsD1 := fun o : Obj => ((Box.new 23 W [.int .i64 a1, .bool a2, .bool a3, .int .i64 a4, .int .i64 a5, .int .i64 a6]).alloc o).cell 1 rfl
      have xsC2 := (Box.new 23 W [.int .i64 a1, .bool a2, .bool a3, .int .i64 a4, .int .i64 a5, .int .i64 a6]).cell 2 rfl
      have xsD2 := fun o : Obj => ((Box.new 23 W [.int .i64 a1, .bool a2, .bool a3, .int .i64 a4, .int .i64 a5, .int .i64 a6]).alloc o).cell 2 rfl
      have xsC3 := (Box.new 23 W [.int .i64 a1, .bool a2, .bool a3, .int .i64 a4, .int .i64 a5, .int .i64 a6]).cell 3 rfl
      have xsD3 := fun o : Obj => ((Box.new 23 W [.int .i64 a1, .bool a2, .bool a3, .int .i64 a4, .int .i64 a5, .int .i64 a6]).alloc o).cell 3 rfl
      have xsC4 := (Box.new 23 W [.int .i64 a1, .bool a2, .bool a3, .int .i64 a4, .int .i64 a5, .int .i64 a6]).cell 4 rfl
      have xsD4 := fun o : Obj => ((Box.new 23 W [.int .i64 a1, .bool a2, .bool a3, .int .i64 a4, .int .i64 a5, .int .i64 a6]).alloc o).cell 4 rfl
      have xsC5 := (Box.new 23 W [.int .i64 a1, .bool a2, .bool a3, .int .i64 a4, .int .i64 a5, .int .i64 a6]).cell 5 rfl
      have xsD5 := fun o : Obj => ((Box.new 23 W [.int .i64 a1, .bool a2, .bool a3, .int .i64 a4, .int .i64 a5, .int .i64 a6]).alloc o).cell 5 rfl
      go_enter Try.func8, Try.ntmps8
      obtain ⟨xs0, xsz0, xs1, xsz1, xs2, xsz2, xs3, xsz3, xs4, xsz4, xs5, xsz5⟩ := xs.f6
      obtain ⟨xt0, xtz0, xt1, xtz1, xt2, xtz2, xt3, xtz3, xt4, xtz4, xt5, xtz5⟩ := xt.f6
      go_wp2_with fail
      clear hw2 xsC0 xsD0 xsC1 xsD1 xsC2 xsD2 xsC3 xsD3 xsC4 xsD4 xsC5 xsD5
      refine (TL.out _).mono ?_
      rintro e V1 ⟨rfl, hk⟩
      clear xs0 xsz0 xs1 xsz1 xs2 xsz2 xs3 xsz3 xs4 xsz4 xs5 xsz5 xt0 xtz0 xt1 xtz1 xt2 xtz2 xt3 xtz3 xt4 xtz4 xt5 xtz5
      replace hB := below_seq hB hk
      replace xs := xs.seq hk
      replace xt := xt.seq hk
      clear hk
      obtain ⟨xs0, xsz0, xs1, xsz1, xs2, xsz2, xs3, xsz3, xs4, xsz4, xs5, xsz5⟩ := xs.f6
      obtain ⟨xt0, xtz0, xt1, xtz1, xt2, xtz2, xt3, xtz3, xt4, xtz4, xt5, xtz5⟩ := xt.f6
      go_wp2_with fail
      refine (TM.out _).mono ?_
      rintro e V2 ⟨rfl, hk⟩
      clear xs0 xsz0 xs1 xsz1 xs2 xsz2 xs3 xsz3 xs4 xsz4 xs5 xsz5 xt0 xtz0 xt1 xtz1 xt2 xtz2 xt3 xtz3 xt4 xtz4 xt5 xtz5
      replace hB := below_seq hB hk
      replace xs := xs.seq hk
      replace xt := xt.seq hk
      clear hk
      obtain ⟨xs0, xsz0, xs1, xsz1, xs2, xsz2, xs3, xsz3, xs4, xsz4, xs5, xsz5⟩ := xs.f6
      obtain ⟨xt0, xtz0, xt1, xtz1, xt2, xtz2, xt3, xtz3, xt4, xtz4, xt5, xtz5⟩ := xt.f6
      go_wp2_with fail
      refine (shown14 _).mono ?_
      rintro e V3 ⟨rfl, hk⟩
      clear xs0 xsz0 xs1 xsz1 xs2 xsz2 xs3 xsz3 xs4 xsz4 xs5 xsz5 xt0 xtz0 xt1 xtz1 xt2 xtz2 xt3 xtz3 xt4 xtz4 xt5 xtz5
      replace hB := below_seq hB hk
      replace xs := xs.seq hk
      replace xt := xt.seq hk
      clear hk
      obtain ⟨xs0, xsz0, xs1, xsz1, xs2, xsz2, xs3, xsz3, xs4, xsz4, xs5, xsz5⟩ := xs.f6
      obtain ⟨xt0, xtz0, xt1, xtz1, xt2, xtz2, xt3, xtz3, xt4, xtz4, xt5, xtz5⟩ := xt.f6
      go_wp2_with fail
      clear xs0 xsz0 xs1 xsz1 xs2 xsz2 xs3 xsz3 xs4 xsz4 xs5 xsz5 xt0 xtz0 xt1 xtz1 xt2 xtz2 xt3 xtz3 xt4 xtz4 xt5 xtz5
      replace hB := hB.drew
      replace xs := xs.drew
      replace xt := xt.drew
      refine wp_region_held_drew (S := fun w' => w'.cell? ⟨W.heap.size, 0, none⟩ = some (.int .i64 a1) ∧ w'.cell? ⟨W.heap.size, 1, none⟩ = some (.bool a2) ∧ w'.cell? ⟨W.heap.size, 2, none⟩ = some (.bool a3) ∧ w'.cell? ⟨W.heap.size, 3, none⟩ = some (.int .i64 a4) ∧ w'.cell? ⟨W.heap.size, 4, none⟩ = some (.int .i64 a5) ∧ w'.cell? ⟨W.heap.size, 5, none⟩ = some (.int .i64 a6) ∧ w'.cell? ⟨W.heap.size + 1, 0, none⟩ = some (.int .i64 a1) ∧ w'.cell? ⟨W.heap.size + 1, 1, none⟩ = some (.bool a2) ∧ w'.cell? ⟨W.heap.size + 1, 2, none⟩ = some (.bool (!a3)) ∧ w'.cell? ⟨W.heap.size + 1, 3, none⟩ = some (.int .i64 a4) ∧ w'.cell? ⟨W.heap.size + 1, 4, none⟩ = some (.int .i64 a5) ∧ w'.cell? ⟨W.heap.size + 1, 5, none⟩ = some (.int .i64 a6)) (by kernel_rfl) ?_ (fun hHeld => ?_)
      · exact ⟨xs.cell 0 rfl, xs.cell 1 rfl, xs.cell 2 rfl, xs.cell 3 rfl, xs.cell 4 rfl, xs.cell 5 rfl, xt.cell 0 rfl, xt.cell 1 rfl, xt.cell 2 rfl, xt.cell 3 rfl, xt.cell 4 rfl, xt.cell 5 rfl⟩
      generalize V3.drew = V4 at *
      refine tk 0 (v := ?_) rfl (Or.inl ⟨by rfl, ?_⟩) ?_; rotate_left
      · intro w hSw; (try dsimp only at hSw); go_simp; try with_reducible rfl
      try simp only [Act.put, l1, l2, l3, l4, l5, l6]
      refine tk 2 (v := ?_) rfl (Or.inl ⟨by rfl, ?_⟩) ?_; rotate_left
      · intro w hSw; (try dsimp only at hSw); go_simp; try with_reducible rfl
      try simp only [Act.put, l1, l2, l3, l4, l5, l6]
      refine tk 5 (v := ?_) rfl (Or.inl ⟨by rfl, ?_⟩) ?_; rotate_left
      · intro w hSw; (try dsimp only at hSw); go_simp; try with_reducible rfl
      try simp only [Act.put, l1, l2, l3, l4, l5, l6]
      refine tk 6 (v := ?_) rfl (Or.inl ⟨by rfl, ?_⟩) ?_; rotate_left
      · intro w hSw; (try dsimp only at hSw); go_simp; try with_reducible rfl
      try simp only [Act.put, l1, l2, l3, l4, l5, l6]
      refine tk 7 (v := ?_) rfl (Or.inl ⟨by rfl, ?_⟩) ?_; rotate_left
      · intro w hSw; (try dsimp only at hSw); go_simp; try with_reducible rfl
      try simp only [Act.put, l1, l2, l3, l4, l5, l6]
      refine wpAnyH_ready (rs := [1]) (by kernel_rfl) (by simp) ?_
      refine AllReadyH.cons rfl (fun K hK => ?_) AllReadyH.nil
      obtain ⟨xs0, xsz0, xs1, xsz1, xs2, xsz2, xs3, xsz3, xs4, xsz4, xs5, xsz5⟩ := xs.f6
      obtain ⟨xt0, xtz0, xt1, xtz1, xt2, xtz2, xt3, xtz3, xt4, xtz4, xt5, xtz5⟩ := xt.f6
      go_simp
      refine (TP.out _).mono ?_
      rintro e V5 ⟨rfl, hk⟩
      clear xs0 xsz0 xs1 xsz1 xs2 xsz2 xs3 xsz3 xs4 xsz4 xs5 xsz5 xt0 xtz0 xt1 xtz1 xt2 xtz2 xt3 xtz3 xt4 xtz4 xt5 xtz5
      replace hB := below_seq hB hk
      replace xs := xs.seq hk
      replace xt := xt.seq hk
      clear hk
      obtain ⟨xs0, xsz0, xs1, xsz1, xs2, xsz2, xs3, xsz3, xs4, xsz4, xs5, xsz5⟩ := xs.f6
      obtain ⟨xt0, xtz0, xt1, xtz1, xt2, xtz2, xt3, xtz3, xt4, xtz4, xt5, xtz5⟩ := xt.f6
      try go_wp2_with fail
      clear xs0 xsz0 xs1 xsz1 xs2 xsz2 xs3 xsz3 xs4 xsz4 xs5 xsz5 xt0 xtz0 xt1 xtz1 xt2 xtz2 xt3 xtz3 xt4 xtz4 xt5 xtz5
      clear hHeld
      refine hK.out _ _ ?_ (fun hHeld => ?_)
      · exact ⟨xs.cell 0 rfl, xs.cell 1 rfl, xs.cell 2 rfl, xs.cell 3 rfl, xs.cell 4 rfl, xs.cell 5 rfl, xt.cell 0 rfl, xt.cell 1 rfl, xt.cell 2 rfl, xt.cell 3 rfl, xt.cell 4 rfl, xt.cell 5 rfl⟩
      clear hK K
      try simp only [Act.put, l1, l2, l3, l4, l5, l6]
      refine wpAnyH_ready (rs := [3]) (by kernel_rfl) (by simp) ?_
      refine AllReadyH.cons rfl (fun K hK => ?_) AllReadyH.nil
      obtain ⟨xs0, xsz0, xs1, xsz1, xs2, xsz2, xs3, xsz3, xs4, xsz4, xs5, xsz5⟩ := xs.f6
      obtain ⟨xt0, xtz0, xt1, xtz1, xt2, xtz2, xt3, xtz3, xt4, xtz4, xt5, xtz5⟩ := xt.f6
      go_simp
      refine (TQ.out _).mono ?_
      rintro e V6 ⟨rfl, hk⟩
      clear xs0 xsz0 xs1 xsz1 xs2 xsz2 xs3 xsz3 xs4 xsz4 xs5 xsz5 xt0 xtz0 xt1 xtz1 xt2 xtz2 xt3 xtz3 xt4 xtz4 xt5 xtz5
      replace hB := below_seq hB hk
      replace xs := xs.seq hk
      replace xt := xt.seq hk
      clear hk
      obtain ⟨xs0, xsz0, xs1, xsz1, xs2, xsz2, xs3, xsz3, xs4, xsz4, xs5, xsz5⟩ := xs.f6
      obtain ⟨xt0, xtz0, xt1, xtz1, xt2, xtz2, xt3, xtz3, xt4, xtz4, xt5, xtz5⟩ := xt.f6
      try go_wp2_with fail
      clear xs0 xsz0 xs1 xsz1 xs2 xsz2 xs3 xsz3 xs4 xsz4 xs5 xsz5 xt0 xtz0 xt1 xtz1 xt2 xtz2 xt3 xtz3 xt4 xtz4 xt5 xtz5
      clear hHeld
      refine hK.out _ _ ?_ (fun hHeld => ?_)
      · exact ⟨xs.cell 0 rfl, xs.cell 1 rfl, xs.cell 2 rfl, xs.cell 3 rfl, xs.cell 4 rfl, xs.cell 5 rfl, xt.cell 0 rfl, xt.cell 1 rfl, xt.cell 2 rfl, xt.cell 3 rfl, xt.cell 4 rfl, xt.cell 5 rfl⟩
      clear hK K
      try simp only [Act.put, l1, l2, l3, l4, l5, l6]
      refine tk 4 (v := ?_) rfl (Or.inl ⟨by rfl, ?_⟩) ?_; rotate_left
      · intro w hSw; (try dsimp only at hSw); go_simp; try with_reducible rfl
      try simp only [Act.put, l1, l2, l3, l4, l5, l6]
      refine tk 8 (v := ?_) rfl (Or.inl ⟨by rfl, ?_⟩) ?_; rotate_left
      · intro w hSw; (try dsimp only at hSw); go_simp; try with_reducible rfl
      try simp only [Act.put, l1, l2, l3, l4, l5, l6]
      refine tk 9 (v := ?_) rfl (Or.inl ⟨by rfl, ?_⟩) ?_; rotate_left
      · intro w hSw; (try dsimp only at hSw); go_simp; try with_reducible rfl
      try simp only [Act.put, l1, l2, l3, l4, l5, l6]
      refine wpAnyH_done (by kernel_rfl) ?_ _
      clear hHeld
      obtain ⟨xs0, xsz0, xs1, xsz1, xs2, xsz2, xs3, xsz3, xs4, xsz4, xs5, xsz5⟩ := xs.f6
      obtain ⟨xt0, xtz0, xt1, xtz1, xt2, xtz2, xt3, xtz3, xt4, xtz4, xt5, xtz5⟩ := xt.f6
      go_wp2
      go_ret
      exact ⟨rfl, hB⟩

set_option maxRecDepth 100000 in
set_option maxHeartbeats 4000000 in
theorem field3 (a1 : Int) (a2 a3 : Bool) (a4 a5 a6 n : Int) (which : UInt8) (L M : Bool) (P Q : Nat) (W : World) (hw : which.toNat % 6 = 3) (TL : ∀ W : World, Gives Try.prog 11 #[.agg #[.int .i64 a1, .bool a2, .bool a3, .int .i64 a4, .int .i64 a5, .int .i64 a6]] W (.bool L)) (TM : ∀ W : World, Gives Try.prog 11 #[.agg #[.int .i64 a1, .bool a2, .bool a3, .int .i64 n, .int .i64 a5, .int .i64 a6]] W (.bool M)) (TP : ∀ W : World, Gives Try.prog 13 #[.agg #[.int .i64 a1, .bool a2, .bool a3, .int .i64 a4, .int .i64 a5, .int .i64 a6]] W (.int .u64 (P : Int))) (TQ : ∀ W : World, Gives Try.prog 13 #[.agg #[.int .i64 a1, .bool a2, .bool a3, .int .i64 n, .int .i64 a5, .int .i64 a6]] W (.int .u64 (Q : Int))) (hpq : L = true → M = true → (P = Q ↔ n = a4)) :
    Gives Try.prog 8 #[.agg #[.int .i64 a1, .bool a2, .bool a3, .int .i64 a4, .int .i64 a5, .int .i64 a6], .int .u8 (which.toNat : Int), .int .i64 n] W (.bool true) := by
  have hw2 : (which.toNat : Int) % 6 = 3 := by omega
  clear hw
  replace TL := Lib.hid TL
  replace TM := Lib.hid TM
  replace TP := Lib.hid TP
  replace TQ := Lib.hid TQ
  cases L
  · skip
    clear hpq
    have hB : Below W.heap.size W ((W.alloc (.cells #[.int .i64 a1, .bool a2, .bool a3, .int .i64 a4, .int .i64 a5, .int .i64 a6] 23)).alloc (.cells #[.int .i64 a1, .bool a2, .bool a3, .int .i64 n, .int .i64 a5, .int .i64 a6] 23)) := (((Below.refl _ _).alloc (Nat.le_refl _) _).alloc (by simp) _)
    have xs := ((Box.new 23 W [.int .i64 a1, .bool a2, .bool a3, .int .i64 a4, .int .i64 a5, .int .i64 a6]).alloc (.cells #[.int .i64 a1, .bool a2, .bool a3, .int .i64 n, .int .i64 a5, .int .i64 a6] 23))
    have xt : Box 23 ((W.alloc (.cells #[.int .i64 a1, .bool a2, .bool a3, .int .i64 a4, .int .i64 a5, .int .i64 a6] 23)).alloc (.cells #[.int .i64 a1, .bool a2, .bool a3, .int .i64 n, .int .i64 a5, .int .i64 a6] 23)) (W.heap.size + 1) [.int .i64 a1, .bool a2, .bool a3, .int .i64 n, .int .i64 a5, .int .i64 a6] := by have h := (Box.new 23 (W.alloc (.cells #[.int .i64 a1, .bool a2, .bool a3, .int .i64 a4, .int .i64 a5, .int .i64 a6] 23)) [.int .i64 a1, .bool a2, .bool a3, .int .i64 n, .int .i64 a5, .int .i64 a6]); rwa [World.size_alloc] at h
    have le_xt : W.heap.size ≤ W.heap.size + 1 := by omega
    have xsC0 := (Box.new 23 W [.int .i64 a1, .bool a2, .bool a3, .int .i64 a4, .int .i64 a5, .int .i64 a6]).cell 0 rfl
    have xsD0 := fun o : Obj => ((Box.new 23 W [.int .i64 a1, .bool a2, .bool a3, .int .i64 a4, .int .i64 a5, .int .i64 a6]).alloc o).cell 0 rfl
    have xsC1 := (Box.new 23 W [.int .i64 a1, .bool a2, .bool a3, .int .i64 a4, .int .i64 a5, .int .i64 a6]).cell 1 rfl
    have xsD1 := fun o : Obj => ((Box.new 23 W [.int .i64 a1, .bool a2, .bool a3, .int .i64 a4, .int .i64 a5, .int .i64 a6]).alloc o).cell 1 rfl
    have xsC2 := (Box.new 23 W [.int .i64 a1, .bool a2, .bool a3, .int .i64 a4, .int .i64 a5, .int .i64 a6]).cell 2 rfl
    have xsD2 := fun o : Obj => ((Box.new 23 W [.int .i64 a1, .bool a2, .bool a3, .int .i64 a4, .int .i64 a5, .int .i64 a6]).alloc o).cell 2 rfl
    have xsC3 := (Box.new 23 W [.int .i64 a1, .bool a2, .bool a3, .int .i64 a4, .int .i64 a5, .int .i64 a6]).cell 3 rfl
    have xsD3 := fun o : Obj => ((Box.new 23 W [.int .i64 a1, .bool a2, .bool a3, .int .i64 a4, .int .i64 a5, .int .i64 a6]).alloc o).cell 3 rfl
    have xsC4 := (Box.new 23 W [.int .i64 a1, .bool a2, .bool a3, .int .i64 a4, .int .i64 a5, .int .i64 a6]).cell 4 rfl
    have xsD4 := fun o : Obj => ((Box.new 23 W [.int .i64 a1, .bool a2, .bool a3, .int .i64 a4, .int .i64 a5, .int .i64 a6]).alloc o).cell 4 rfl
    have xsC5 := (Box.new 23 W [.int .i64 a1, .bool a2, .bool a3, .int .i64 a4, .int .i64 a5, .int .i64 a6]).cell 5 rfl
    have xsD5 := fun o : Obj => ((Box.new 23 W [.int .i64 a1, .bool a2, .bool a3, .int .i64 a4, .int .i64 a5, .int .i64 a6]).alloc o).cell 5 rfl
    go_enter Try.func8, Try.ntmps8
    obtain ⟨xs0, xsz0, xs1, xsz1, xs2, xsz2, xs3, xsz3, xs4, xsz4, xs5, xsz5⟩ := xs.f6
    obtain ⟨xt0, xtz0, xt1, xtz1, xt2, xtz2, xt3, xtz3, xt4, xtz4, xt5, xtz5⟩ := xt.f6
    go_wp2_with fail
    clear hw2 xsC0 xsD0 xsC1 xsD1 xsC2 xsD2 xsC3 xsD3 xsC4 xsD4 xsC5 xsD5
    refine (TL.out _).mono ?_
    rintro e V1 ⟨rfl, hk⟩
    clear xs0 xsz0 xs1 xsz1 xs2 xsz2 xs3 xsz3 xs4 xsz4 xs5 xsz5 xt0 xtz0 xt1 xtz1 xt2 xtz2 xt3 xtz3 xt4 xtz4 xt5 xtz5
    replace hB := below_seq hB hk
    replace xs := xs.seq hk
    replace xt := xt.seq hk
    clear hk
    obtain ⟨xs0, xsz0, xs1, xsz1, xs2, xsz2, xs3, xsz3, xs4, xsz4, xs5, xsz5⟩ := xs.f6
    obtain ⟨xt0, xtz0, xt1, xtz1, xt2, xtz2, xt3, xtz3, xt4, xtz4, xt5, xtz5⟩ := xt.f6
    go_wp2_with fail
    refine (shown14 _).mono ?_
    rintro e V2 ⟨rfl, hk⟩
    clear xs0 xsz0 xs1 xsz1 xs2 xsz2 xs3 xsz3 xs4 xsz4 xs5 xsz5 xt0 xtz0 xt1 xtz1 xt2 xtz2 xt3 xtz3 xt4 xtz4 xt5 xtz5
    replace hB := below_seq hB hk
    replace xs := xs.seq hk
    replace xt := xt.seq hk
    clear hk
    obtain ⟨xs0, xsz0, xs1, xsz1, xs2, xsz2, xs3, xsz3, xs4, xsz4, xs5, xsz5⟩ := xs.f6
    obtain ⟨xt0, xtz0, xt1, xtz1, xt2, xtz2, xt3, xtz3, xt4, xtz4, xt5, xtz5⟩ := xt.f6
    go_wp2
    go_ret
    exact ⟨rfl, hB⟩
  · cases M
    · skip
      clear hpq
      have hB : Below W.heap.size W ((W.alloc (.cells #[.int .i64 a1, .bool a2, .bool a3, .int .i64 a4, .int .i64 a5, .int .i64 a6] 23)).alloc (.cells #[.int .i64 a1, .bool a2, .bool a3, .int .i64 n, .int .i64 a5, .int .i64 a6] 23)) := (((Below.refl _ _).alloc (Nat.le_refl _) _).alloc (by simp) _)
      have xs := ((Box.new 23 W [.int .i64 a1, .bool a2, .bool a3, .int .i64 a4, .int .i64 a5, .int .i64 a6]).alloc (.cells #[.int .i64 a1, .bool a2, .bool a3, .int .i64 n, .int .i64 a5, .int .i64 a6] 23))
      have xt : Box 23 ((W.alloc (.cells #[.int .i64 a1, .bool a2, .bool a3, .int .i64 a4, .int .i64 a5, .int .i64 a6] 23)).alloc (.cells #[.int .i64 a1, .bool a2, .bool a3, .int .i64 n, .int .i64 a5, .int .i64 a6] 23)) (W.heap.size + 1) [.int .i64 a1, .bool a2, .bool a3, .int .i64 n, .int .i64 a5, .int .i64 a6] := by have h := (Box.new 23 (W.alloc (.cells #[.int .i64 a1, .bool a2, .bool a3, .int .i64 a4, .int .i64 a5, .int .i64 a6] 23)) [.int .i64 a1, .bool a2, .bool a3, .int .i64 n, .int .i64 a5, .int .i64 a6]); rwa [World.size_alloc] at h
      have le_xt : W.heap.size ≤ W.heap.size + 1 := by omega
      have xsC0 := (Box.new 23 W [.int .i64 a1, .bool a2, .bool a3, .int .i64 a4, .int .i64 a5, .int .i64 a6]).cell 0 rfl
      have xsD0 := fun o : Obj => ((Box.new 23 W [.int .i64 a1, .bool a2, .bool a3, .int .i64 a4, .int .i64 a5, .int .i64 a6]).alloc o).cell 0 rfl
      have xsC1 := (Box.new 23 W [.int .i64 a1, .bool a2, .bool a3, .int .i64 a4, .int .i64 a5, .int .i64 a6]).cell 1 rfl
      have xsD1 := fun o : Obj => ((Box.new 23 W [.int .i64 a1, .bool a2, .bool a3, .int .i64 a4, .int .i64 a5, .int .i64 a6]).alloc o).cell 1 rfl
      have xsC2 := (Box.new 23 W [.int .i64 a1, .bool a2, .bool a3, .int .i64 a4, .int .i64 a5, .int .i64 a6]).cell 2 rfl
      have xsD2 := fun o : Obj => ((Box.new 23 W [.int .i64 a1, .bool a2, .bool a3, .int .i64 a4, .int .i64 a5, .int .i64 a6]).alloc o).cell 2 rfl
      have xsC3 := (Box.new 23 W [.int .i64 a1, .bool a2, .bool a3, .int .i64 a4, .int .i64 a5, .int .i64 a6]).cell 3 rfl
      have xsD3 := fun o : Obj => ((Box.new 23 W [.int .i64 a1, .bool a2, .bool a3, .int .i64 a4, .int .i64 a5, .int .i64 a6]).alloc o).cell 3 rfl
      have xsC4 := (Box.new 23 W [.int .i64 a1, .bool a2, .bool a3, .int .i64 a4, .int .i64 a5, .int .i64 a6]).cell 4 rfl
      have xsD4 := fun o : Obj => ((Box.new 23 W [.int .i64 a1, .bool a2, .bool a3, .int .i64 a4, .int .i64 a5, .int .i64 a6]).alloc o).cell 4 rfl
      have xsC5 := (Box.new 23 W [.int .i64 a1, .bool a2, .bool a3, .int .i64 a4, .int .i64 a5, .int .i64 a6]).cell 5 rfl
      have xsD5 := fun o : Obj => ((Box.new 23 W [.int .i64 a1, .bool a2, .bool a3, .int .i64 a4, .int .i64 a5, .int .i64 a6]).alloc o).cell 5 rfl
      go_enter Try.func8, Try.ntmps8
      obtain ⟨xs0, xsz0, xs1, xsz1, xs2, xsz2, xs3, xsz3, xs4, xsz4, xs5, xsz5⟩ := xs.f6
      obtain ⟨xt0, xtz0, xt1, xtz1, xt2, xtz2, xt3, xtz3, xt4, xtz4, xt5, xtz5⟩ := xt.f6
      go_wp2_with fail
      clear hw2 xsC0 xsD0 xsC1 xsD1 xsC2 xsD2 xsC3 xsD3 xsC4 xsD4 xsC5 xsD5
      refine (TL.out _).mono ?_
      rintro e V1 ⟨rfl, hk⟩
      clear xs0 xsz0 xs1 xsz1 xs2 xsz2 xs3 xsz3 xs4 xsz4 xs5 xsz5 xt0 xtz0 xt1 xtz1 xt2 xtz2 xt3 xtz3 xt4 xtz4 xt5 xtz5
      replace hB := below_seq hB hk
      replace xs := xs.seq hk
      replace xt := xt.seq hk
      clear hk
      obtain ⟨xs0, xsz0, xs1, xsz1, xs2, xsz2, xs3, xsz3, xs4, xsz4, xs5, xsz5⟩ := xs.f6
      obtain ⟨xt0, xtz0, xt1, xtz1, xt2, xtz2, xt3, xtz3, xt4, xtz4, xt5, xtz5⟩ := xt.f6
      go_wp2_with fail
      refine (TM.out _).mono ?_
      rintro e V2 ⟨rfl, hk⟩
      clear xs0 xsz0 xs1 xsz1 xs2 xsz2 xs3 xsz3 xs4 xsz4 xs5 xsz5 xt0 xtz0 xt1 xtz1 xt2 xtz2 xt3 xtz3 xt4 xtz4 xt5 xtz5
      replace hB := below_seq hB hk
      replace xs := xs.seq hk
      replace xt := xt.seq hk
      clear hk
      obtain ⟨xs0, xsz0, xs1, xsz1, xs2, xsz2, xs3, xsz3, xs4, xsz4, xs5, xsz5⟩ := xs.f6
      obtain ⟨xt0, xtz0, xt1, xtz1, xt2, xtz2, xt3, xtz3, xt4, xtz4, xt5, xtz5⟩ := xt.f6
      go_wp2_with fail
      refine (shown14 _).mono ?_
      rintro e V3 ⟨rfl, hk⟩
      clear xs0 xsz0 xs1 xsz1 xs2 xsz2 xs3 xsz3 xs4 xsz4 xs5 xsz5 xt0 xtz0 xt1 xtz1 xt2 xtz2 xt3 xtz3 xt4 xtz4 xt5 xtz5
      replace hB := below_seq hB hk
      replace xs := xs.seq hk
      replace xt := xt.seq hk
      clear hk
      obtain ⟨xs0, xsz0, xs1, xsz1, xs2, xsz2, xs3, xsz3, xs4, xsz4, xs5, xsz5⟩ := xs.f6
      obtain ⟨xt0, xtz0, xt1, xtz1, xt2, xtz2, xt3, xtz3, xt4, xtz4, xt5, xtz5⟩ := xt.f6
      go_wp2
      go_ret
      exact ⟨rfl, hB⟩
    · replace hpq := hpq rfl rfl
      by_cases e : n = a4
      · obtain rfl := hpq.2 e
        clear hpq
        have e3 : a4 = n := e.symm
        clear e
        subst e3
        have hB : Below W.heap.size W ((W.alloc (.cells #[.int .i64 a1, .bool a2, .bool a3, .int .i64 a4, .int .i64 a5, .int .i64 a6] 23)).alloc (.cells #[.int .i64 a1, .bool a2, .bool a3, .int .i64 a4, .int .i64 a5, .int .i64 a6] 23)) := (((Below.refl _ _).alloc (Nat.le_refl _) _).alloc (by simp) _)
        have xs := ((Box.new 23 W [.int .i64 a1, .bool a2, .bool a3, .int .i64 a4, .int .i64 a5, .int .i64 a6]).alloc (.cells #[.int .i64 a1, .bool a2, .bool a3, .int .i64 a4, .int .i64 a5, .int .i64 a6] 23))
        have xt : Box 23 ((W.alloc (.cells #[.int .i64 a1, .bool a2, .bool a3, .int .i64 a4, .int .i64 a5, .int .i64 a6] 23)).alloc (.cells #[.int .i64 a1, .bool a2, .bool a3, .int .i64 a4, .int .i64 a5, .int .i64 a6] 23)) (W.heap.size + 1) [.int .i64 a1, .bool a2, .bool a3, .int .i64 a4, .int .i64 a5, .int .i64 a6] := by have h := (Box.new 23 (W.alloc (.cells #[.int .i64 a1, .bool a2, .bool a3, .int .i64 a4, .int .i64 a5, .int .i64 a6] 23)) [.int .i64 a1, .bool a2, .bool a3, .int .i64 a4, .int .i64 a5, .int .i64 a6]); rwa [World.size_alloc] at h
        have le_xt : W.heap.size ≤ W.heap.size + 1 := by omega
        have xsC0 := (Box.new 23 W [.int .i64 a1, .bool a2, .bool a3, .int .i64 a4, .int .i64 a5, .int .i64 a6]).cell 0 rfl
        have xsD0 := fun o : Obj => ((Box.new 23 W [.int .i64 a1, .bool a2, .bool a3, .int .i64 a4, .int .i64 a5, .int .i64 a6]).alloc o).cell 0 rfl
        have xsC1 := (Box.new 23 W [.int .i64 a1, .bool a2, .bool a3, .int .i64 a4, .int .i64 a5, .int .i64 a6]).cell 1 rfl
        have xsD1 := fun o : Obj => ((Box.new 23 W [.int .i64 a1, .bool a2, .bool a3, .int .i64 a4, .int .i64 a5, .int .i64 a6]).alloc o).cell 1 rfl
        have xsC2 := (Box.new 23 W [.int .i64 a1, .bool a2, .bool a3, .int .i64 a4, .int .i64 a5, .int .i64 a6]).cell 2 rfl
        have xsD2 := fun o : Obj => ((Box.new 23 W [.int .i64 a1, .bool a2, .bool a3, .int .i64 a4, .int .i64 a5, .int .i64 a6]).alloc o).cell 2 rfl
        have xsC3 := (Box.new 23 W [.int .i64 a1, .bool a2, .bool a3, .int .i64 a4, .int .i64 a5, .int .i64 a6]).cell 3 rfl
        have xsD3 := fun o : Obj => ((Box.new 23 W [.int .i64 a1, .bool a2, .bool a3, .int .i64 a4, .int .i64 a5, .int .i64 a6]).alloc o).cell 3 rfl
        have xsC4 := (Box.new 23 W [.int .i64 a1, .bool a2, .bool a3, .int .i64 a4, .int .i64 a5, .int .i64 a6]).cell 4 rfl
        have xsD4 := fun o : Obj => ((Box.new 23 W [.int .i64 a1, .bool a2, .bool a3, .int .i64 a4, .int .i64 a5, .int .i64 a6]).alloc o).cell 4 rfl
        have xsC5 := (Box.new 23 W [.int .i64 a1, .bool a2, .bool a3, .int .i64 a4, .int .i64 a5, .int .i64 a6]).cell 5 rfl
        have xsD5 := fun o : Obj => ((Box.new 23 W [.int .i64 a1, .bool a2, .bool a3, .int .i64 a4, .int .i64 a5, .int .i64 a6]).alloc o).cell 5 rfl
        go_enter Try.func8, Try.ntmps8
        obtain ⟨xs0, xsz0, xs1, xsz1, xs2, xsz2, xs3, xsz3, xs4, xsz4, xs5, xsz5⟩ := xs.f6
        obtain ⟨xt0, xtz0, xt1, xtz1, xt2, xtz2, xt3, xtz3, xt4, xtz4, xt5, xtz5⟩ := xt.f6
        go_wp2_with fail
        clear hw2 xsC0 xsD0 xsC1 xsD1 xsC2 xsD2 xsC3 xsD3 xsC4 xsD4 xsC5 xsD5
        refine (TL.out _).mono ?_
        rintro e V1 ⟨rfl, hk⟩
        clear xs0 xsz0 xs1 xsz1 xs2 xsz2 xs3 xsz3 xs4 xsz4 xs5 xsz5 xt0 xtz0 xt1 xtz1 xt2 xtz2 xt3 xtz3 xt4 xtz4 xt5 xtz5
        replace hB := below_seq hB hk
        replace xs := xs.seq hk
        replace xt := xt.seq hk
        clear hk
        obtain ⟨xs0, xsz0, xs1, xsz1, xs2, xsz2, xs3, xsz3, xs4, xsz4, xs5, xsz5⟩ := xs.f6
        obtain ⟨xt0, xtz0, xt1, xtz1, xt2, xtz2, xt3, xtz3, xt4, xtz4, xt5, xtz5⟩ := xt.f6
        go_wp2_with fail
        refine (TM.out _).mono ?_
        rintro e V2 ⟨rfl, hk⟩
        clear xs0 xsz0 xs1 xsz1 xs2 xsz2 xs3 xsz3 xs4 xsz4 xs5 xsz5 xt0 xtz0 xt1 xtz1 xt2 xtz2 xt3 xtz3 xt4 xtz4 xt5 xtz5
        replace hB := below_seq hB hk
        replace xs := xs.seq hk
        replace xt := xt.seq hk
        clear hk
        obtain ⟨xs0, xsz0, xs1, xsz1, xs2, xsz2, xs3, xsz3, xs4, xsz4, xs5, xsz5⟩ := xs.f6
        obtain ⟨xt0, xtz0, xt1, xtz1, xt2, xtz2, xt3, xtz3, xt4, xtz4, xt5, xtz5⟩ := xt.f6
        go_wp2_with fail
        refine (shown14 _).mono ?_
        rintro e V3 ⟨rfl, hk⟩
        clear xs0 xsz0 xs1 xsz1 xs2 xsz2 xs3 xsz3 xs4 xsz4 xs5 xsz5 xt0 xtz0 xt1 xtz1 xt2 xtz2 xt3 xtz3 xt4 xtz4 xt5 xtz5
        replace hB := below_seq hB hk
        replace xs := xs.seq hk
        replace xt := xt.seq hk
        clear hk
        obtain ⟨xs0, xsz0, xs1, xsz1, xs2, xsz2, xs3, xsz3, xs4, xsz4, xs5, xsz5⟩ := xs.f6
        obtain ⟨xt0, xtz0, xt1, xtz1, xt2, xtz2, xt3, xtz3, xt4, xtz4, xt5, xtz5⟩ := xt.f6
        go_wp2_with fail
        clear xs0 xsz0 xs1 xsz1 xs2 xsz2 xs3 xsz3 xs4 xsz4 xs5 xsz5 xt0 xtz0 xt1 xtz1 xt2 xtz2 xt3 xtz3 xt4 xtz4 xt5 xtz5
        replace hB := hB.drew
        replace xs := xs.drew
        replace xt := xt.drew
        refine wp_region_held_drew (S := fun w' => w'.cell? ⟨W.heap.size, 0, none⟩ = some (.int .i64 a1) ∧ w'.cell? ⟨W.heap.size, 1, none⟩ = some (.bool a2) ∧ w'.cell? ⟨W.heap.size, 2, none⟩ = some (.bool a3) ∧ w'.cell? ⟨W.heap.size, 3, none⟩ = some (.int .i64 a4) ∧ w'.cell? ⟨W.heap.size, 4, none⟩ = some (.int .i64 a5) ∧ w'.cell? ⟨W.heap.size, 5, none⟩ = some (.int .i64 a6) ∧ w'.cell? ⟨W.heap.size + 1, 0, none⟩ = some (.int .i64 a1) ∧ w'.cell? ⟨W.heap.size + 1, 1, none⟩ = some (.bool a2) ∧ w'.cell? ⟨W.heap.size + 1, 2, none⟩ = some (.bool a3) ∧ w'.cell? ⟨W.heap.size + 1, 3, none⟩ = some (.int .i64 a4) ∧ w'.cell? ⟨W.heap.size + 1, 4, none⟩ = some (.int .i64 a5) ∧ w'.cell? ⟨W.heap.size + 1, 5, none⟩ = some (.int .i64 a6)) (by kernel_rfl) ?_ (fun hHeld => ?_)
        · exact ⟨xs.cell 0 rfl, xs.cell 1 rfl, xs.cell 2 rfl, xs.cell 3 rfl, xs.cell 4 rfl, xs.cell 5 rfl, xt.cell 0 rfl, xt.cell 1 rfl, xt.cell 2 rfl, xt.cell 3 rfl, xt.cell 4 rfl, xt.cell 5 rfl⟩
        generalize V3.drew = V4 at *
        refine tk 0 (v := ?_) rfl (Or.inl ⟨by rfl, ?_⟩) ?_; rotate_left
        · intro w hSw; (try dsimp only at hSw); go_simp; try with_reducible rfl
        try simp only [Act.put, l1, l2, l3, l4, l5, l6]
        refine tk 2 (v := ?_) rfl (Or.inl ⟨by rfl, ?_⟩) ?_; rotate_left
        · intro w hSw; (try dsimp only at hSw); go_simp; try with_reducible rfl
        try simp only [Act.put, l1, l2, l3, l4, l5, l6]
        refine tk 5 (v := ?_) rfl (Or.inl ⟨by rfl, ?_⟩) ?_; rotate_left
        · intro w hSw; (try dsimp only at hSw); go_simp; try with_reducible rfl
        try simp only [Act.put, l1, l2, l3, l4, l5, l6]
        refine tk 6 (v := ?_) rfl (Or.inl ⟨by rfl, ?_⟩) ?_; rotate_left
        · intro w hSw; (try dsimp only at hSw); go_simp; try with_reducible rfl
        try simp only [Act.put, l1, l2, l3, l4, l5, l6]
        refine tk 7 (v := ?_) rfl (Or.inl ⟨by rfl, ?_⟩) ?_; rotate_left
        · intro w hSw; (try dsimp only at hSw); go_simp; try with_reducible rfl
        try simp only [Act.put, l1, l2, l3, l4, l5, l6]
        refine wpAnyH_ready (rs := [1]) (by kernel_rfl) (by simp) ?_
        refine AllReadyH.cons rfl (fun K hK => ?_) AllReadyH.nil
        obtain ⟨xs0, xsz0, xs1, xsz1, xs2, xsz2, xs3, xsz3, xs4, xsz4, xs5, xsz5⟩ := xs.f6
        obtain ⟨xt0, xtz0, xt1, xtz1, xt2, xtz2, xt3, xtz3, xt4, xtz4, xt5, xtz5⟩ := xt.f6
        go_simp
        refine (TP.out _).mono ?_
        rintro e V5 ⟨rfl, hk⟩
        clear xs0 xsz0 xs1 xsz1 xs2 xsz2 xs3 xsz3 xs4 xsz4 xs5 xsz5 xt0 xtz0 xt1 xtz1 xt2 xtz2 xt3 xtz3 xt4 xtz4 xt5 xtz5
        replace hB := below_seq hB hk
        replace xs := xs.seq hk
        replace xt := xt.seq hk
        clear hk
        obtain ⟨xs0, xsz0, xs1, xsz1, xs2, xsz2, xs3, xsz3, xs4, xsz4, xs5, xsz5⟩ := xs.f6
        obtain ⟨xt0, xtz0, xt1, xtz1, xt2, xtz2, xt3, xtz3, xt4, xtz4, xt5, xtz5⟩ := xt.f6
        try go_wp2_with fail
        clear xs0 xsz0 xs1 xsz1 xs2 xsz2 xs3 xsz3 xs4 xsz4 xs5 xsz5 xt0 xtz0 xt1 xtz1 xt2 xtz2 xt3 xtz3 xt4 xtz4 xt5 xtz5
        clear hHeld
        refine hK.out _ _ ?_ (fun hHeld => ?_)
        · exact ⟨xs.cell 0 rfl, xs.cell 1 rfl, xs.cell 2 rfl, xs.cell 3 rfl, xs.cell 4 rfl, xs.cell 5 rfl, xt.cell 0 rfl, xt.cell 1 rfl, xt.cell 2 rfl, xt.cell 3 rfl, xt.cell 4 rfl, xt.cell 5 rfl⟩
        clear hK K
        try simp only [Act.put, l1, l2, l3, l4, l5, l6]
        refine wpAnyH_ready (rs := [3]) (by kernel_rfl) (by simp) ?_
        refine AllReadyH.cons rfl (fun K hK => ?_) AllReadyH.nil
        obtain ⟨xs0, xsz0, xs1, xsz1, xs2, xsz2, xs3, xsz3, xs4, xsz4, xs5, xsz5⟩ := xs.f6
        obtain ⟨xt0, xtz0, xt1, xtz1, xt2, xtz2, xt3, xtz3, xt4, xtz4, xt5, xtz5⟩ := xt.f6
        go_simp
        refine (TQ.out _).mono ?_
        rintro e V6 ⟨rfl, hk⟩
        clear xs0 xsz0 xs1 xsz1 xs2 xsz2 xs3 xsz3 xs4 xsz4 xs5 xsz5 xt0 xtz0 xt1 xtz1 xt2 xtz2 xt3 xtz3 xt4 xtz4 xt5 xtz5
        replace hB := below_seq hB hk
        replace xs := xs.seq hk
        replace xt := xt.seq hk
        clear hk
        obtain ⟨xs0, xsz0, xs1, xsz1, xs2, xsz2, xs3, xsz3, xs4, xsz4, xs5, xsz5⟩ := xs.f6
        obtain ⟨xt0, xtz0, xt1, xtz1, xt2, xtz2, xt3, xtz3, xt4, xtz4, xt5, xtz5⟩ := xt.f6
        try go_wp2_with fail
        clear xs0 xsz0 xs1 xsz1 xs2 xsz2 xs3 xsz3 xs4 xsz4 xs5 xsz5 xt0 xtz0 xt1 xtz1 xt2 xtz2 xt3 xtz3 xt4 xtz4 xt5 xtz5
        clear hHeld
        refine hK.out _ _ ?_ (fun hHeld => ?_)
        · exact ⟨xs.cell 0 rfl, xs.cell 1 rfl, xs.cell 2 rfl, xs.cell 3 rfl, xs.cell 4 rfl, xs.cell 5 rfl, xt.cell 0 rfl, xt.cell 1 rfl, xt.cell 2 rfl, xt.cell 3 rfl, xt.cell 4 rfl, xt.cell 5 rfl⟩
        clear hK K
        try simp only [Act.put, l1, l2, l3, l4, l5, l6]
        refine tk 4 (v := ?_) rfl (Or.inl ⟨by rfl, ?_⟩) ?_; rotate_left
        · intro w hSw; (try dsimp only at hSw); go_simp; try with_reducible rfl
        try simp only [Act.put, l1, l2, l3, l4, l5, l6]
        refine tk 8 (v := ?_) rfl (Or.inl ⟨by rfl, ?_⟩) ?_; rotate_left
        · intro w hSw; (try dsimp only at hSw); go_simp; try with_reducible rfl
        try simp only [Act.put, l1, l2, l3, l4, l5, l6]
        refine tk 9 (v := ?_) rfl (Or.inl ⟨by rfl, ?_⟩) ?_; rotate_left
        · intro w hSw; (try dsimp only at hSw); go_simp; try with_reducible rfl
        try simp only [Act.put, l1, l2, l3, l4, l5, l6]
        refine wpAnyH_done (by kernel_rfl) ?_ _
        clear hHeld
        obtain ⟨xs0, xsz0, xs1, xsz1, xs2, xsz2, xs3, xsz3, xs4, xsz4, xs5, xsz5⟩ := xs.f6
        obtain ⟨xt0, xtz0, xt1, xtz1, xt2, xtz2, xt3, xtz3, xt4, xtz4, xt5, xtz5⟩ := xt.f6
        go_wp2
        go_ret
        exact ⟨rfl, hB⟩
      · have np : ((P : Int) == (Q : Int)) = false := beq_eq_false_iff_ne.2 (fun h => e (hpq.1 (Int.ofNat_inj.1 h)))
        have e2 : ¬ a4 = n := fun h => e h.symm
        clear hpq
        have hB : Below W.heap.size W ((W.alloc (.cells #[.int .i64 a1, .bool a2, .bool a3, .int .i64 a4, .int .i64 a5, .int .i64 a6] 23)).alloc (.cells #[.int .i64 a1, .bool a2, .bool a3, .int .i64 n, .int .i64 a5, .int .i64 a6] 23)) := (((Below.refl _ _).alloc (Nat.le_refl _) _).alloc (by simp) _)
        have xs := ((Box.new 23 W [.int .i64 a1, .bool a2, .bool a3, .int .i64 a4, .int .i64 a5, .int .i64 a6]).alloc (.cells #[.int .i64 a1, .bool a2, .bool a3, .int .i64 n, .int .i64 a5, .int .i64 a6] 23))
        have xt : Box 23 ((W.alloc (.cells #[.int .i64 a1, .bool a2, .bool a3, .int .i64 a4, .int .i64 a5, .int .i64 a6] 23)).alloc (.cells #[.int .i64 a1, .bool a2, .bool a3, .int .i64 n, .int .i64 a5, .int .i64 a6] 23)) (W.heap.size + 1) [.int .i64 a1, .bool a2, .bool a3, .int .i64 n, .int .i64 a5, .int .i64 a6] := by have h := (Box.new 23 (W.alloc (.cells #[.int .i64 a1, .bool a2, .bool a3, .int .i64 a4, .int .i64 a5, .int .i64 a6] 23)) [.int .i64 a1, .bool a2, .bool a3, .int .i64 n, .int .i64 a5, .int .i64 a6]); rwa [World.size_alloc] at h
        have le_xt : W.heap.size ≤ W.heap.size + 1 := by omega
        have xsC0 := (Box.new 23 W [.int .i64 a1, .bool a2, .bool a3, .int .i64 a4, .int .i64 a5, .int .i64 a6]).cell 0 rfl
        have xsD0 := fun o : Obj => ((Box.new 23 W [.int .i64 a1, .bool a2, .bool a3, .int .i64 a4, .int .i64 a5, .int .i64 a6]).alloc o).cell 0 rfl
        have xsC1 := (Box.new 23 W [.int .i64 a1, .bool a2, .bool a3, .int .i64 a4, .int .i64 a5, .int .i64 a6]).cell 1 rfl
        have xsD1 := fun o : Obj => ((Box.new 23 W [.int .i64 a1, .bool a2, .bool a3, .int .i64 a4, .int .i64 a5, .int .i64 a6]).alloc o).cell 1 rfl
        have xsC2 := (Box.new 23 W [.int .i64 a1, .bool a2, .bool a3, .int .i64 a4, .int .i64 a5, .int .i64 a6]).cell 2 rfl
        have xsD2 := fun o : Obj => ((Box.new 23 W [.int .i64 a1, .bool a2, .bool a3, .int .i64 a4, .int .i64 a5, .int .i64 a6]).alloc o).cell 2 rfl
        have xsC3 := (Box.new 23 W [.int .i64 a1, .bool a2, .bool a3, .int .i64 a4, .int .i64 a5, .int .i64 a6]).cell 3 rfl
        have xsD3 := fun o : Obj => ((Box.new 23 W [.int .i64 a1, .bool a2, .bool a3, .int .i64 a4, .int .i64 a5, .int .i64 a6]).alloc o).cell 3 rfl
        have xsC4 := (Box.new 23 W [.int .i64 a1, .bool a2, .bool a3, .int .i64 a4, .int .i64 a5, .int .i64 a6]).cell 4 rfl
        have xsD4 := fun o : Obj => ((Box.new 23 W [.int .i64 a1, .bool a2, .bool a3, .int .i64 a4, .int .i64 a5, .int .i64 a6]).alloc o).cell 4 rfl
        have xsC5 := (Box.new 23 W [.int .i64 a1, .bool a2, .bool a3, .int .i64 a4, .int .i64 a5, .int .i64 a6]).cell 5 rfl
        have xsD5 := fun o : Obj => ((Box.new 23 W [.int .i64 a1, .bool a2, .bool a3, .int .i64 a4, .int .i64 a5, .int .i64 a6]).alloc o).cell 5 rfl
        go_enter Try.func8, Try.ntmps8
        obtain ⟨xs0, xsz0, xs1, xsz1, xs2, xsz2, xs3, xsz3, xs4, xsz4, xs5, xsz5⟩ := xs.f6
        obtain ⟨xt0, xtz0, xt1, xtz1, xt2, xtz2, xt3, xtz3, xt4, xtz4, xt5, xtz5⟩ := xt.f6
        go_wp2_with fail
        clear hw2 xsC0 xsD0 xsC1 xsD1 xsC2 xsD2 xsC3 xsD3 xsC4 xsD4 xsC5 xsD5
        refine (TL.out _).mono ?_
        rintro e V1 ⟨rfl, hk⟩
        clear xs0 xsz0 xs1 xsz1 xs2 xsz2 xs3 xsz3 xs4 xsz4 xs5 xsz5 xt0 xtz0 xt1 xtz1 xt2 xtz2 xt3 xtz3 xt4 xtz4 xt5 xtz5
        replace hB := below_seq hB hk
        replace xs := xs.seq hk
        replace xt := xt.seq hk
        clear hk
        obtain ⟨xs0, xsz0, xs1, xsz1, xs2, xsz2, xs3, xsz3, xs4, xsz4, xs5, xsz5⟩ := xs.f6
        obtain ⟨xt0, xtz0, xt1, xtz1, xt2, xtz2, xt3, xtz3, xt4, xtz4, xt5, xtz5⟩ := xt.f6
        go_wp2_with fail
        refine (TM.out _).mono ?_
        rintro e V2 ⟨rfl, hk⟩
        clear xs0 xsz0 xs1 xsz1 xs2 xsz2 xs3 xsz3 xs4 xsz4 xs5 xsz5 xt0 xtz0 xt1 xtz1 xt2 xtz2 xt3 xtz3 xt4 xtz4 xt5 xtz5
        replace hB := below_seq hB hk
        replace xs := xs.seq hk
        replace xt := xt.seq hk
        clear hk
        obtain ⟨xs0, xsz0, xs1, xsz1, xs2, xsz2, xs3, xsz3, xs4, xsz4, xs5, xsz5⟩ := xs.f6
        obtain ⟨xt0, xtz0, xt1, xtz1, xt2, xtz2, xt3, xtz3, xt4, xtz4, xt5, xtz5⟩ := xt.f6
        go_wp2_with fail
        refine (shown14 _).mono ?_
        rintro e V3 ⟨rfl, hk⟩
        clear xs0 xsz0 xs1 xsz1 xs2 xsz2 xs3 xsz3 xs4 xsz4 xs5 xsz5 xt0 xtz0 xt1 xtz1 xt2 xtz2 xt3 xtz3 xt4 xtz4 xt5 xtz5
        replace hB := below_seq hB hk
        replace xs := xs.seq hk
        replace xt := xt.seq hk
        clear hk
        obtain ⟨xs0, xsz0, xs1, xsz1, xs2, xsz2, xs3, xsz3, xs4, xsz4, xs5, xsz5⟩ := xs.f6
        obtain ⟨xt0, xtz0, xt1, xtz1, xt2, xtz2, xt3, xtz3, xt4, xtz4, xt5, xtz5⟩ := xt.f6
        go_wp2_with fail
        clear xs0 xsz0 xs1 xsz1 xs2 xsz2 xs3 xsz3 xs4 xsz4 xs5 xsz5 xt0 xtz0 xt1 xtz1 xt2 xtz2 xt3 xtz3 xt4 xtz4 xt5 xtz5
        replace hB := hB.drew
        replace xs := xs.drew
        replace xt := xt.drew
        refine wp_region_held_drew (S := fun w' => w'.cell? ⟨W.heap.size, 0, none⟩ = some (.int .i64 a1) ∧ w'.cell? ⟨W.heap.size, 1, none⟩ = some (.bool a2) ∧ w'.cell? ⟨W.heap.size, 2, none⟩ = some (.bool a3) ∧ w'.cell? ⟨W.heap.size, 3, none⟩ = some (.int .i64 a4) ∧ w'.cell? ⟨W.heap.size, 4, none⟩ = some (.int .i64 a5) ∧ w'.cell? ⟨W.heap.size, 5, none⟩ = some (.int .i64 a6) ∧ w'.cell? ⟨W.heap.size + 1, 0, none⟩ = some (.int .i64 a1) ∧ w'.cell? ⟨W.heap.size + 1, 1, none⟩ = some (.bool a2) ∧ w'.cell? ⟨W.heap.size + 1, 2, none⟩ = some (.bool a3) ∧ w'.cell? ⟨W.heap.size + 1, 3, none⟩ = some (.int .i64 n) ∧ w'.cell? ⟨W.heap.size + 1, 4, none⟩ = some (.int .i64 a5) ∧ w'.cell? ⟨W.heap.size + 1, 5, none⟩ = some (.int .i64 a6)) (by kernel_rfl) ?_ (fun hHeld => ?_)
        · exact ⟨xs.cell 0 rfl, xs.cell 1 rfl, xs.cell 2 rfl, xs.cell 3 rfl, xs.cell 4 rfl, xs.cell 5 rfl, xt.cell 0 rfl, xt.cell 1 rfl, xt.cell 2 rfl, xt.cell 3 rfl, xt.cell 4 rfl, xt.cell 5 rfl⟩
        generalize V3.drew = V4 at *
        refine tk 0 (v := ?_) rfl (Or.inl ⟨by rfl, ?_⟩) ?_; rotate_left
        · intro w hSw; (try dsimp only at hSw); go_simp; try with_reducible rfl
        try simp only [Act.put, l1, l2, l3, l4, l5, l6]
        refine tk 2 (v := ?_) rfl (Or.inl ⟨by rfl, ?_⟩) ?_; rotate_left
        · intro w hSw; (try dsimp only at hSw); go_simp; try with_reducible rfl
        try simp only [Act.put, l1, l2, l3, l4, l5, l6]
        refine tk 5 (v := ?_) rfl (Or.inl ⟨by rfl, ?_⟩) ?_; rotate_left
        · intro w hSw; (try dsimp only at hSw); go_simp; try with_reducible rfl
        try simp only [Act.put, l1, l2, l3, l4, l5, l6]
        refine tk 6 (v := ?_) rfl (Or.inl ⟨by rfl, ?_⟩) ?_; rotate_left
        · intro w hSw; (try dsimp only at hSw); go_simp; try with_reducible rfl
        try simp only [Act.put, l1, l2, l3, l4, l5, l6]
        refine tk 7 (v := ?_) rfl (Or.inl ⟨by rfl, ?_⟩) ?_; rotate_left
        · intro w hSw; (try dsimp only at hSw); go_simp; try with_reducible rfl
        try simp only [Act.put, l1, l2, l3, l4, l5, l6]
        refine wpAnyH_ready (rs := [1]) (by kernel_rfl) (by simp) ?_
        refine AllReadyH.cons rfl (fun K hK => ?_) AllReadyH.nil
        obtain ⟨xs0, xsz0, xs1, xsz1, xs2, xsz2, xs3, xsz3, xs4, xsz4, xs5, xsz5⟩ := xs.f6
        obtain ⟨xt0, xtz0, xt1, xtz1, xt2, xtz2, xt3, xtz3, xt4, xtz4, xt5, xtz5⟩ := xt.f6
        go_simp
        refine (TP.out _).mono ?_
        rintro e V5 ⟨rfl, hk⟩
        clear xs0 xsz0 xs1 xsz1 xs2 xsz2 xs3 xsz3 xs4 xsz4 xs5 xsz5 xt0 xtz0 xt1 xtz1 xt2 xtz2 xt3 xtz3 xt4 xtz4 xt5 xtz5
        replace hB := below_seq hB hk
        replace xs := xs.seq hk
        replace xt := xt.seq hk
        clear hk
        obtain ⟨xs0, xsz0, xs1, xsz1, xs2, xsz2, xs3, xsz3, xs4, xsz4, xs5, xsz5⟩ := xs.f6
        obtain ⟨xt0, xtz0, xt1, xtz1, xt2, xtz2, xt3, xtz3, xt4, xtz4, xt5, xtz5⟩ := xt.f6
        try go_wp2_with fail
        clear xs0 xsz0 xs1 xsz1 xs2 xsz2 xs3 xsz3 xs4 xsz4 xs5 xsz5 xt0 xtz0 xt1 xtz1 xt2 xtz2 xt3 xtz3 xt4 xtz4 xt5 xtz5
        clear hHeld
        refine hK.out _ _ ?_ (fun hHeld => ?_)
        · exact ⟨xs.cell 0 rfl, xs.cell 1 rfl, xs.cell 2 rfl, xs.cell 3 rfl, xs.cell 4 rfl, xs.cell 5 rfl, xt.cell 0 rfl, xt.cell 1 rfl, xt.cell 2 rfl, xt.cell 3 rfl, xt.cell 4 rfl, xt.cell 5 rfl⟩
        clear hK K
        try simp only [Act.put, l1, l2, l3, l4, l5, l6]
        refine wpAnyH_ready (rs := [3]) (by kernel_rfl) (by simp) ?_
        refine AllReadyH.cons rfl (fun K hK => ?_) AllReadyH.nil
        obtain ⟨xs0, xsz0, xs1, xsz1, xs2, xsz2, xs3, xsz3, xs4, xsz4, xs5, xsz5⟩ := xs.f6
        obtain ⟨xt0, xtz0, xt1, xtz1, xt2, xtz2, xt3, xtz3, xt4, xtz4, xt5, xtz5⟩ := xt.f6
        go_simp
        refine (TQ.out _).mono ?_
        rintro e V6 ⟨rfl, hk⟩
        clear xs0 xsz0 xs1 xsz1 xs2 xsz2 xs3 xsz3 xs4 xsz4 xs5 xsz5 xt0 xtz0 xt1 xtz1 xt2 xtz2 xt3 xtz3 xt4 xtz4 xt5 xtz5
        replace hB := below_seq hB hk
        replace xs := xs.seq hk
        replace xt := xt.seq hk
        clear hk
        obtain ⟨xs0, xsz0, xs1, xsz1, xs2, xsz2, xs3, xsz3, xs4, xsz4, xs5, xsz5⟩ := xs.f6
        obtain ⟨xt0, xtz0, xt1, xtz1, xt2, xtz2, xt3, xtz3, xt4, xtz4, xt5, xtz5⟩ := xt.f6
        try go_wp2_with fail
        clear xs0 xsz0 xs1 xsz1 xs2 xsz2 xs3 xsz3 xs4 xsz4 xs5 xsz5 xt0 xtz0 xt1 xtz1 xt2 xtz2 xt3 xtz3 xt4 xtz4 xt5 xtz5
        clear hHeld
        refine hK.out _ _ ?_ (fun hHeld => ?_)
        · exact ⟨xs.cell 0 rfl, xs.cell 1 rfl, xs.cell 2 rfl, xs.cell 3 rfl, xs.cell 4 rfl, xs.cell 5 rfl, xt.cell 0 rfl, xt.cell 1 rfl, xt.cell 2 rfl, xt.cell 3 rfl, xt.cell 4 rfl, xt.cell 5 rfl⟩
        clear hK K
        try simp only [Act.put, l1, l2, l3, l4, l5, l6]
        refine tk 4 (v := ?_) rfl (Or.inl ⟨by rfl, ?_⟩) ?_; rotate_left
        · intro w hSw; (try dsimp only at hSw); go_simp; try with_reducible rfl
        try simp only [Act.put, l1, l2, l3, l4, l5, l6]
        refine tk 8 (v := ?_) rfl (Or.inl ⟨by rfl, ?_⟩) ?_; rotate_left
        · intro w hSw; (try dsimp only at hSw); go_simp; try with_reducible rfl
        try simp only [Act.put, l1, l2, l3, l4, l5, l6]
        refine tk 9 (v := ?_) rfl (Or.inl ⟨by rfl, ?_⟩) ?_; rotate_left
        · intro w hSw; (try dsimp only at hSw); go_simp; try with_reducible rfl
        try simp only [Act.put, l1, l2, l3, l4, l5, l6]
        refine wpAnyH_done (by kernel_rfl) ?_ _
        clear hHeld
        obtain ⟨xs0, xsz0, xs1, xsz1, xs2, xsz2, xs3, xsz3, xs4, xsz4, xs5, xsz5⟩ := xs.f6
        obtain ⟨xt0, xtz0, xt1, xtz1, xt2, xtz2, xt3, xtz3, xt4, xtz4, xt5, xtz5⟩ := xt.f6
        go_wp2
        go_ret
        exact ⟨rfl, hB⟩

set_option maxRecDepth 100000 in
set_option maxHeartbeats 4000000 in
theorem field4 (a1 : Int) (a2 a3 : Bool) (a4 a5 a6 n : Int) (which : UInt8) (L M : Bool) (P Q : Nat) (W : World) (hw : which.toNat % 6 = 4) (TL : ∀ W : World, Gives Try.prog 11 #[.agg #[.int .i64 a1, .bool a2, .bool a3, .int .i64 a4, .int .i64 a5, .int .i64 a6]] W (.bool L)) (TM : ∀ W : World, Gives Try.prog 11 #[.agg #[.int .i64 a1, .bool a2, .bool a3, .int .i64 a4, .int .i64 n, .int .i64 a6]] W (.bool M)) (TP : ∀ W : World, Gives Try.prog 13 #[.agg #[.int .i64 a1, .bool a2, .bool a3, .int .i64 a4, .int .i64 a5, .int .i64 a6]] W (.int .u64 (P : Int))) (TQ : ∀ W : World, Gives Try.prog 13 #[.agg #[.int .i64 a1, .bool a2, .bool a3, .int .i64 a4, .int .i64 n, .int .i64 a6]] W (.int .u64 (Q : Int))) (hpq : L = true → M = true → (P = Q ↔ n = a5)) :
    Gives Try.prog 8 #[.agg #[.int .i64 a1, .bool a2, .bool a3, .int .i64 a4, .int .i64 a5, .int .i64 a6], .int .u8 (which.toNat : Int), .int .i64 n] W (.bool true) := by
  have hw2 : (which.toNat : Int) % 6 = 4 := by omega
  clear hw
  replace TL := Lib.hid TL
  replace TM := Lib.hid TM
  replace TP := Lib.hid TP
  replace TQ := Lib.hid TQ
  cases L
  · skip
    clear hpq
    have hB : Below W.heap.size W ((W.alloc (.cells #[.int .i64 a1, .bool a2, .bool a3, .int .i64 a4, .int .i64 a5, .int .i64 a6] 23)).alloc (.cells #[.int .i64 a1, .bool a2, .bool a3, .int .i64 a4, .int .i64 n, .int .i64 a6] 23)) := (((Below.refl _ _).alloc (Nat.le_refl _) _).alloc (by simp) _)
    have xs := ((Box.new 23 W [.int .i64 a1, .bool a2, .bool a3, .int .i64 a4, .int .i64 a5, .int .i64 a6]).alloc (.cells #[.int .i64 a1, .bool a2, .bool a3, .int .i64 a4, .int .i64 n, .int .i64 a6] 23))
    have xt : Box 23 ((W.alloc (.cells #[.int .i64 a1, .bool a2, .bool a3, .int .i64 a4, .int .i64 a5, .int .i64 a6] 23)).alloc (.cells #[.int .i64 a1, .bool a2, .bool a3, .int .i64 a4, .int .i64 n, .int .i64 a6] 23)) (W.heap.size + 1) [.int .i64 a1, .bool a2, .bool a3, .int .i64 a4, .int .i64 n, .int .i64 a6] := by have h := (Box.new 23 (W.alloc (.cells #[.int .i64 a1, .bool a2, .bool a3, .int .i64 a4, .int .i64 a5, .int .i64 a6] 23)) [.int .i64 a1, .bool a2, .bool a3, .int .i64 a4, .int .i64 n, .int .i64 a6]); rwa [World.size_alloc] at h
    have le_xt : W.heap.size ≤ W.heap.size + 1 := by omega
    have xsC0 := (Box.new 23 W [.int .i64 a1, .bool a2, .bool a3, .int .i64 a4, .int .i64 a5, .int .i64 a6]).cell 0 rfl
    have xsD0 := fun o : Obj => ((Box.new 23 W [.int .i64 a1, .bool a2, .bool a3, .int .i64 a4, .int .i64 a5, .int .i64 a6]).alloc o).cell 0 rfl
    have xsC1 := (Box.new 23 W [.int .i64 a1, .bool a2, .bool a3, .int .i64 a4, .int .i64 a5, .int .i64 a6]).cell 1 rfl
    have xsD1 := fun o : Obj => ((Box.new 23 W [.int .i64 a1, .bool a2, .bool a3, .int .i64 a4, .int .i64 a5, .int .i64 a6]).alloc o).cell 1 rfl
    have xsC2 := (Box.new 23 W [.int .i64 a1, .bool a2, .bool a3, .int .i64 a4, .int .i64 a5, .int .i64 a6]).cell 2 rfl
    have xsD2 := fun o : Obj => ((Box.new 23 W [.int .i64 a1, .bool a2, .bool a3, .int .i64 a4, .int .i64 a5, .int .i64 a6]).alloc o).cell 2 rfl
    have xsC3 := (Box.new 23 W [.int .i64 a1, .bool a2, .bool a3, .int .i64 a4, .int .i64 a5, .int .i64 a6]).cell 3 rfl
    have xsD3 := fun o : Obj => ((Box.new 23 W [.int .i64 a1, .bool a2, .bool a3, .int .i64 a4, .int .i64 a5, .int .i64 a6]).alloc o).cell 3 rfl
    have xsC4 := (Box.new 23 W [.int .i64 a1, .bool a2, .bool a3, .int .i64 a4, .int .i64 a5, .int .i64 a6]).cell 4 rfl
    have xsD4 := fun o : Obj => ((Box.new 23 W [.int .i64 a1, .bool a2, .bool a3, .int .i64 a4, .int .i64 a5, .int .i64 a6]).alloc o).cell 4 rfl
    have xsC5 := (Box.new 23 W [.int .i64 a1, .bool a2, .bool a3, .int .i64 a4, .int .i64 a5, .int .i64 a6]).cell 5 rfl
    have xsD5 := fun o : Obj => ((Box.new 23 W [.int .i64 a1, .bool a2, .bool a3, .int .i64 a4, .int .i64 a5, .int .i64 a6]).alloc o).cell 5 rfl
    go_enter Try.func8, Try.ntmps8
    obtain ⟨xs0, xsz0, xs1, xsz1, xs2, xsz2, xs3, xsz3, xs4, xsz4, xs5, xsz5⟩ := xs.f6
    obtain ⟨xt0, xtz0, xt1, xtz1, xt2, xtz2, xt3, xtz3, xt4, xtz4, xt5, xtz5⟩ := xt.f6
    go_wp2_with fail
    clear hw2 xsC0 xsD0 xsC1 xsD1 xsC2 xsD2 xsC3 xsD3 xsC4 xsD4 xsC5 xsD5
    refine (TL.out _).mono ?_
    rintro e V1 ⟨rfl, hk⟩
    clear xs0 xsz0 xs1 xsz1 xs2 xsz2 xs3 xsz3 xs4 xsz4 xs5 xsz5 xt0 xtz0 xt1 xtz1 xt2 xtz2 xt3 xtz3 xt4 xtz4 xt5 xtz5
    replace hB := below_seq hB hk
    replace xs := xs.seq hk
    replace xt := xt.seq hk
    clear hk
    obtain ⟨xs0, xsz0, xs1, xsz1, xs2, xsz2, xs3, xsz3, xs4, xsz4, xs5, xsz5⟩ := xs.f6
    obtain ⟨xt0, xtz0, xt1, xtz1, xt2, xtz2, xt3, xtz3, xt4, xtz4, xt5, xtz5⟩ := xt.f6
    go_wp2_with fail
    refine (shown14 _).mono ?_
    rintro e V2 ⟨rfl, hk⟩
    clear xs0 xsz0 xs1 xsz1 xs2 xsz2 xs3 xsz3 xs4 xsz4 xs5 xsz5 xt0 xtz0 xt1 xtz1 xt2 xtz2 xt3 xtz3 xt4 xtz4 xt5 xtz5
    replace hB := below_seq hB hk
    replace xs := xs.seq hk
    replace xt := xt.seq hk
    clear hk
    obtain ⟨xs0, xsz0, xs1, xsz1, xs2, xsz2, xs3, xsz3, xs4, xsz4, xs5, xsz5⟩ := xs.f6
    obtain ⟨xt0, xtz0, xt1, xtz1, xt2, xtz2, xt3, xtz3, xt4, xtz4, xt5, xtz5⟩ := xt.f6
    go_wp2
    go_ret
    exact ⟨rfl, hB⟩
  · cases M
    · skip
      clear hpq
      have hB : Below W.heap.size W ((W.alloc (.cells #[.int .i64 a1, .bool a2, .bool a3, .int .i64 a4, .int .i64 a5, .int .i64 a6] 23)).alloc (.cells #[.int .i64 a1, .bool a2, .bool a3, .int .i64 a4, .int .i64 n, .int .i64 a6] 23)) := (((Below.refl _ _).alloc (Nat.le_refl _) _).alloc (by simp) _)
      have xs := ((Box.new 23 W [.int .i64 a1, .bool a2, .bool a3, .int .i64 a4, .int .i64 a5, .int .i64 a6]).alloc (.cells #[.int .i64 a1, .bool a2, .bool a3, .int .i64 a4, .int .i64 n, .int .i64 a6] 23))
      have xt : Box 23 ((W.alloc (.cells #[.int .i64 a1, .bool a2, .bool a3, .int .i64 a4, .int .i64 a5, .int .i64 a6] 23)).alloc (.cells #[.int .i64 a1, .bool a2, .bool a3, .int .i64 a4, .int .i64 n, .int .i64 a6] 23)) (W.heap.size + 1) [.int .i64 a1, .bool a2, .bool a3, .int .i64 a4, .int .i64 n, .int .i64 a6] := by have h := (Box.new 23 (W.alloc (.cells #[.int .i64 a1, .bool a2, .bool a3, .int .i64 a4, .int .i64 a5, .int .i64 a6] 23)) [.int .i64 a1, .bool a2, .bool a3, .int .i64 a4, .int .i64 n, .int .i64 a6]); rwa [World.size_alloc] at h
      have le_xt : W.heap.size ≤ W.heap.size + 1 := by omega
      have xsC0 := (Box.new 23 W [.int .i64 a1, .bool a2, .bool a3, .int .i64 a4, .int .i64 a5, .int .i64 a6]).cell 0 rfl
      have xsD0 := fun o : Obj => ((Box.new 23 W [.int .i64 a1, .bool a2, .bool a3, .int .i64 a4, .int .i64 a5, .int .i64 a6]).alloc o).cell 0 rfl
      have xsC1 := (Box.new 23 W [.int .i64 a1, .bool a2, .bool a3, .int .i64 a4, .int .i64 a5, .int .i64 a6]).cell 1 rfl
      have xsD1 := fun o : Obj => ((Box.new 23 W [.int .i64 a1, .bool a2, .bool a3, .int .i64 a4, .int .i64 a5, .int .i64 a6]).alloc o).cell 1 rfl
      have xsC2 := (Box.new 23 W [.int .i64 a1, .bool a2, .bool a3, .int .i64 a4, .int .i64 a5, .int .i64 a6]).cell 2 rfl
      have xsD2 := fun o : Obj => ((Box.new 23 W [.int .i64 a1, .bool a2, .bool a3, .int .i64 a4, .int .i64 a5, .int .i64 a6]).alloc o).cell 2 rfl
      have xsC3 := (Box.new 23 W [.int .i64 a1, .bool a2, .bool a3, .int .i64 a4, .int .i64 a5, .int .i64 a6]).cell 3 rfl
      have xsD3 := fun o : Obj => ((Box.new 23 W [.int .i64 a1, .bool a2, .bool a3, .int .i64 a4, .int .i64 a5, .int .i64 a6]).alloc o).cell 3 rfl
      have xsC4 := (Box.new 23 W [.int .i64 a1, .bool a2, .bool a3, .int .i64 a4, .int .i64 a5, .int .i64 a6]).cell 4 rfl
      have xsD4 := fun o : Obj => ((Box.new 23 W [.int .i64 a1, .bool a2, .bool a3, .int .i64 a4, .int .i64 a5, .int .i64 a6]).alloc o).cell 4 rfl
      have xsC5 := (Box.new 23 W [.int .i64 a1, .bool a2, .bool a3, .int .i64 a4, .int .i64 a5, .int .i64 a6]).cell 5 rfl
      have xsD5 := fun o : Obj => ((Box.new 23 W [.int .i64 a1, .bool a2, .bool a3, .int .i64 a4, .int .i64 a5, .int .i64 a6]).alloc o).cell 5 rfl
      go_enter Try.func8, Try.ntmps8
      obtain ⟨xs0, xsz0, xs1, xsz1, xs2, xsz2, xs3, xsz3, xs4, xsz4, xs5, xsz5⟩ := xs.f6
      obtain ⟨xt0, xtz0, xt1, xtz1, xt2, xtz2, xt3, xtz3, xt4, xtz4, xt5, xtz5⟩ := xt.f6
      go_wp2_with fail
      clear hw2 xsC0 xsD0 xsC1 xsD1 xsC2 xsD2 xsC3 xsD3 xsC4 xsD4 xsC5 xsD5
      refine (TL.out _).mono ?_
      rintro e V1 ⟨rfl, hk⟩
      clear xs0 xsz0 xs1 xsz1 xs2 xsz2 xs3 xsz3 xs4 xsz4 xs5 xsz5 xt0 xtz0 xt1 xtz1 xt2 xtz2 xt3 xtz3 xt4 xtz4 xt5 xtz5
      replace hB := below_seq hB hk
      replace xs := xs.seq hk
      replace xt := xt.seq hk
      clear hk
      obtain ⟨xs0, xsz0, xs1, xsz1, xs2, xsz2, xs3, xsz3, xs4, xsz4, xs5, xsz5⟩ := xs.f6
      obtain ⟨xt0, xtz0, xt1, xtz1, xt2, xtz2, xt3, xtz3, xt4, xtz4, xt5, xtz5⟩ := xt.f6
      go_wp2_with fail
      refine (TM.out _).mono ?_
      rintro e V2 ⟨rfl, hk⟩
      clear xs0 xsz0 xs1 xsz1 xs2 xsz2 xs3 xsz3 xs4 xsz4 xs5 xsz5 xt0 xtz0 xt1 xtz1 xt2 xtz2 xt3 xtz3 xt4 xtz4 xt5 xtz5
      replace hB := below_seq hB hk
      replace xs := xs.seq hk
      replace xt := xt.seq hk
      clear hk
      obtain ⟨xs0, xsz0, xs1, xsz1, xs2, xsz2, xs3, xsz3, xs4, xsz4, xs5, xsz5⟩ := xs.f6
      obtain ⟨xt0, xtz0, xt1, xtz1, xt2, xtz2, xt3, xtz3, xt4, xtz4, xt5, xtz5⟩ := xt.f6
      go_wp2_with fail
      refine (shown14 _).mono ?_
      rintro e V3 ⟨rfl, hk⟩
      clear xs0 xsz0 xs1 xsz1 xs2 xsz2 xs3 xsz3 xs4 xsz4 xs5 xsz5 xt0 xtz0 xt1 xtz1 xt2 xtz2 xt3 xtz3 xt4 xtz4 xt5 xtz5
      replace hB := below_seq hB hk
      replace xs := xs.seq hk
      replace xt := xt.seq hk
      clear hk
      obtain ⟨xs0, xsz0, xs1, xsz1, xs2, xsz2, xs3, xsz3, xs4, xsz4, xs5, xsz5⟩ := xs.f6
      obtain ⟨xt0, xtz0, xt1, xtz1, xt2, xtz2, xt3, xtz3, xt4, xtz4, xt5, xtz5⟩ := xt.f6
      go_wp2
      go_ret
      exact ⟨rfl, hB⟩
    · replace hpq := hpq rfl rfl
      by_cases e : n = a5
      · obtain rfl := hpq.2 e
        clear hpq
        have e3 : a5 = n := e.symm
        clear e
        subst e3
        have hB : Below W.heap.size W ((W.alloc (.cells #[.int .i64 a1, .bool a2, .bool a3, .int .i64 a4, .int .i64 a5, .int .i64 a6] 23)).alloc (.cells #[.int .i64 a1, .bool a2, .bool a3, .int .i64 a4, .int .i64 a5, .int .i64 a6] 23)) := (((Below.refl _ _).alloc (Nat.le_refl _) _).alloc (by simp) _)
        have xs := ((Box.new 23 W [.int .i64 a1, .bool a2, .bool a3, .int .i64 a4, .int .i64 a5, .int .i64 a6]).alloc (.cells #[.int .i64 a1, .bool a2, .bool a3, .int .i64 a4, .int .i64 a5, .int .i64 a6] 23))
        have xt : Box 23 ((W.alloc (.cells #[.int .i64 a1, .bool a2, .bool a3, .int .i64 a4, .int .i64 a5, .int .i64 a6] 23)).alloc (.cells #[.int .i64 a1, .bool a2, .bool a3, .int .i64 a4, .int .i64 a5, .int .i64 a6] 23)) (W.heap.size + 1) [.int .i64 a1, .bool a2, .bool a3, .int .i64 a4, .int .i64 a5, .int .i64 a6] := by have h := (Box.new 23 (W.alloc (.cells #[.int .i64 a1, .bool a2, .bool a3, .int .i64 a4, .int .i64 a5, .int .i64 a6] 23)) [.int .i64 a1, .bool a2, .bool a3, .int .i64 a4, .int .i64 a5, .int .i64 a6]); rwa [World.size_alloc] at h
        have le_xt : W.heap.size ≤ W.heap.size + 1 := by omega
        have xsC0 := (Box.new 23 W [.int .i64 a1, .bool a2, .bool a3, .int .i64 a4, .int .i64 a5, .int .i64 a6]).cell 0 rfl
        have xsD0 := fun o : Obj => ((Box.new 23 W [.int .i64 a1, .bool a2, .bool a3, .int .i64 a4, .int .i64 a5, .int .i64 a6]).alloc o).cell 0 rfl
        have xsC1 := (Box.new 23 W [.int .i64 a1, .bool a2, .bool a3, .int .i64 a4, .int .i64 a5, .int .i64 a6]).cell 1 rfl
        have xsD1 := fun o : Obj => ((Box.new 23 W [.int .i64 a1, .bool a2, .bool a3, .int .i64 a4, .int .i64 a5, .int .i64 a6]).alloc o).cell 1 rfl
        have xsC2 := (Box.new 23 W [.int .i64 a1, .bool a2, .bool a3, .int .i64 a4, .int .i64 a5, .int .i64 a6]).cell 2 rfl
        have xsD2 := fun o : Obj => ((Box.new 23 W [.int .i64 a1, .bool a2, .bool a3, .int .i64 a4, .int .i64 a5, .int .i64 a6]).alloc o).cell 2 rfl
        have xsC3 := (Box.new 23 W [.int .i64 a1, .bool a2, .bool a3, .int .i64 a4, .int .i64 a5, .int .i64 a6]).cell 3 rfl
        have xsD3 := fun o : Obj => ((Box.new 23 W [.int .i64 a1, .bool a2, .bool a3, .int .i64 a4, .int .i64 a5, .int .i64 a6]).alloc o).cell 3 rfl
        have xsC4 := (Box.new 23 W [.int .i64 a1, .bool a2, .bool a3, .int .i64 a4, .int .i64 a5, .int .i64 a6]).cell 4 rfl
        have xsD4 := fun o : Obj => ((Box.new 23 W [.int .i64 a1, .bool a2, .bool a3, .int .i64 a4, .int .i64 a5, .int .i64 a6]).alloc o).cell 4 rfl
        have xsC5 := (Box.new 23 W [.int .i64 a1, .bool a2, .bool a3, .int .i64 a4, .int .i64 a5, .int .i64 a6]).cell 5 rfl
        have xsD5 := fun o : Obj => ((Box.new 23 W [.int .i64 a1, .bool a2, .bool a3, .int .i64 a4, .int .i64 a5, .int .i64 a6]).alloc o).cell 5 rfl
        go_enter Try.func8, Try.ntmps8
        obtain ⟨xs0, xsz0, xs1, xsz1, xs2, xsz2, xs3, xsz3, xs4, xsz4, xs5, xsz5⟩ := xs.f6
        obtain ⟨xt0, xtz0, xt1, xtz1, xt2, xtz2, xt3, xtz3, xt4, xtz4, xt5, xtz5⟩ := xt.f6
        go_wp2_with fail
        clear hw2 xsC0 xsD0 xsC1 xsD1 xsC2 xsD2 xsC3 xsD3 xsC4 xsD4 xsC5 xsD5
        refine (TL.out _).mono ?_
        rintro e V1 ⟨rfl, hk⟩
        clear xs0 xsz0 xs1 xsz1 xs2 xsz2 xs3 xsz3 xs4 xsz4 xs5 xsz5 xt0 xtz0 xt1 xtz1 xt2 xtz2 xt3 xtz3 xt4 xtz4 xt5 xtz5
        replace hB := below_seq hB hk
        replace xs := xs.seq hk
        replace xt := xt.seq hk
        clear hk
        obtain ⟨xs0, xsz0, xs1, xsz1, xs2, xsz2, xs3, xsz3, xs4, xsz4, xs5, xsz5⟩ := xs.f6
        obtain ⟨xt0, xtz0, xt1, xtz1, xt2, xtz2, xt3, xtz3, xt4, xtz4, xt5, xtz5⟩ := xt.f6
        go_wp2_with fail
        refine (TM.out _).mono ?_
        rintro e V2 ⟨rfl, hk⟩
        clear xs0 xsz0 xs1 xsz1 xs2 xsz2 xs3 xsz3 xs4 xsz4 xs5 xsz5 xt0 xtz0 xt1 xtz1 xt2 xtz2 xt3 xtz3 xt4 xtz4 xt5 xtz5
        replace hB := below_seq hB hk
        replace xs := xs.seq hk
        replace xt := xt.seq hk
        clear hk
        obtain ⟨xs0, xsz0, xs1, xsz1, xs2, xsz2, xs3, xsz3, xs4, xsz4, xs5, xsz5⟩ := xs.f6
        obtain ⟨xt0, xtz0, xt1, xtz1, xt2, xtz2, xt3, xtz3, xt4, xtz4, xt5, xtz5⟩ := xt.f6
        go_wp2_with fail
        refine (shown14 _).mono ?_
        rintro e V3 ⟨rfl, hk⟩
        clear xs0 xsz0 xs1 xsz1 xs2 xsz2 xs3 xsz3 xs4 xsz4 xs5 xsz5 xt0 xtz0 xt1 xtz1 xt2 xtz2 xt3 xtz3 xt4 xtz4 xt5 xtz5
        replace hB := below_seq hB hk
        replace xs := xs.seq hk
        replace xt := xt.seq hk
        clear hk
        obtain ⟨xs0, xsz0, xs1, xsz1, xs2, xsz2, xs3, xsz3, xs4, xsz4, xs5, xsz5⟩ := xs.f6
        obtain ⟨xt0, xtz0, xt1, xtz1, xt2, xtz2, xt3, xtz3, xt4, xtz4, xt5, xtz5⟩ := xt.f6
        go_wp2_with fail
        clear xs0 xsz0 xs1 xsz1 xs2 xsz2 xs3 xsz3 xs4 xsz4 xs5 xsz5 xt0 xtz0 xt1 xtz1 xt2 xtz2 xt3 xtz3 xt4 xtz4 xt5 xtz5
        replace hB := hB.drew
        replace xs := xs.drew
        replace xt := xt.drew
        refine wp_region_held_drew (S := fun w' => w'.cell? ⟨W.heap.size, 0, none⟩ = some (.int .i64 a1) ∧ w'.cell? ⟨W.heap.size, 1, none⟩ = some (.bool a2) ∧ w'.cell? ⟨W.heap.size, 2, none⟩ = some (.bool a3) ∧ w'.cell? ⟨W.heap.size, 3, none⟩ = some (.int .i64 a4) ∧ w'.cell? ⟨W.heap.size, 4, none⟩ = some (.int .i64 a5) ∧ w'.cell? ⟨W.heap.size, 5, none⟩ = some (.int .i64 a6) ∧ w'.cell? ⟨W.heap.size + 1, 0, none⟩ = some (.int .i64 a1) ∧ w'.cell? ⟨W.heap.size + 1, 1, none⟩ = some (.bool a2) ∧ w'.cell? ⟨W.heap.size + 1, 2, none⟩ = some (.bool a3) ∧ w'.cell? ⟨W.heap.size + 1, 3, none⟩ = some (.int .i64 a4) ∧ w'.cell? ⟨W.heap.size + 1, 4, none⟩ = some (.int .i64 a5) ∧ w'.cell? ⟨W.heap.size + 1, 5, none⟩ = some (.int .i64 a6)) (by kernel_rfl) ?_ (fun hHeld => ?_)
        · exact ⟨xs.cell 0 rfl, xs.cell 1 rfl, xs.cell 2 rfl, xs.cell 3 rfl, xs.cell 4 rfl, xs.cell 5 rfl, xt.cell 0 rfl, xt.cell 1 rfl, xt.cell 2 rfl, xt.cell 3 rfl, xt.cell 4 rfl, xt.cell 5 rfl⟩
        generalize V3.drew = V4 at *
        refine tk 0 (v := ?_) rfl (Or.inl ⟨by rfl, ?_⟩) ?_; rotate_left
        · intro w hSw; (try dsimp only at hSw); go_simp; try with_reducible rfl
        try simp only [Act.put, l1, l2, l3, l4, l5, l6]
        refine tk 2 (v := ?_) rfl (Or.inl ⟨by rfl, ?_⟩) ?_; rotate_left
        · intro w hSw; (try dsimp only at hSw); go_simp; try with_reducible rfl
        try simp only [Act.put, l1, l2, l3, l4, l5, l6]
        refine tk 5 (v := ?_) rfl (Or.inl ⟨by rfl, ?_⟩) ?_; rotate_left
        · intro w hSw; (try dsimp only at hSw); go_simp; try with_reducible rfl
        try simp only [Act.put, l1, l2, l3, l4, l5, l6]
        refine tk 6 (v := ?_) rfl (Or.inl ⟨by rfl, ?_⟩) ?_; rotate_left
        · intro w hSw; (try dsimp only at hSw); go_simp; try with_reducible rfl
        try simp only [Act.put, l1, l2, l3, l4, l5, l6]
        refine tk 7 (v := ?_) rfl (Or.inl ⟨by rfl, ?_⟩) ?_; rotate_left
        · intro w hSw; (try dsimp only at hSw); go_simp; try with_reducible rfl
        try simp only [Act.put, l1, l2, l3, l4, l5, l6]
        refine wpAnyH_ready (rs := [1]) (by kernel_rfl) (by simp) ?_
        refine AllReadyH.cons rfl (fun K hK => ?_) AllReadyH.nil
        obtain ⟨xs0, xsz0, xs1, xsz1, xs2, xsz2, xs3, xsz3, xs4, xsz4, xs5, xsz5⟩ := xs.f6
        obtain ⟨xt0, xtz0, xt1, xtz1, xt2, xtz2, xt3, xtz3, xt4, xtz4, xt5, xtz5⟩ := xt.f6
        go_simp
        refine (TP.out _).mono ?_
        rintro e V5 ⟨rfl, hk⟩
        clear xs0 xsz0 xs1 xsz1 xs2 xsz2 xs3 xsz3 xs4 xsz4 xs5 xsz5 xt0 xtz0 xt1 xtz1 xt2 xtz2 xt3 xtz3 xt4 xtz4 xt5 xtz5
        replace hB := below_seq hB hk
        replace xs := xs.seq hk
        replace xt := xt.seq hk
        clear hk
        obtain ⟨xs0, xsz0, xs1, xsz1, xs2, xsz2, xs3, xsz3, xs4, xsz4, xs5, xsz5⟩ := xs.f6
        obtain ⟨xt0, xtz0, xt1, xtz1, xt2, xtz2, xt3, xtz3, xt4, xtz4, xt5, xtz5⟩ := xt.f6
        try go_wp2_with fail
        clear xs0 xsz0 xs1 xsz1 xs2 xsz2 xs3 xsz3 xs4 xsz4 xs5 xsz5 xt0 xtz0 xt1 xtz1 xt2 xtz2 xt3 xtz3 xt4 xtz4 xt5 xtz5
        clear hHeld
        refine hK.out _ _ ?_ (fun hHeld => ?_)
        · exact ⟨xs.cell 0 rfl, xs.cell 1 rfl, xs.cell 2 rfl, xs.cell 3 rfl, xs.cell 4 rfl, xs.cell 5 rfl, xt.cell 0 rfl, xt.cell 1 rfl, xt.cell 2 rfl, xt.cell 3 rfl, xt.cell 4 rfl, xt.cell 5 rfl⟩
        clear hK K
        try simp only [Act.put, l1, l2, l3, l4, l5, l6]
        refine wpAnyH_ready (rs := [3]) (by kernel_rfl) (by simp) ?_
        refine AllReadyH.cons rfl (fun K hK => ?_) AllReadyH.nil
        obtain ⟨xs0, xsz0, xs1, xsz1, xs2, xsz2, xs3, xsz3, xs4, xsz4, xs5, xsz5⟩ := xs.f6
        obtain ⟨xt0, xtz0, xt1, xtz1, xt2, xtz2, xt3, xtz3, xt4, xtz4, xt5, xtz5⟩ := xt.f6
        go_simp
        refine (TQ.out _).mono ?_
        rintro e V6 ⟨rfl, hk⟩
        clear xs0 xsz0 xs1 xsz1 xs2 xsz2 xs3 xsz3 xs4 xsz4 xs5 xsz5 xt0 xtz0 xt1 xtz1 xt2 xtz2 xt3 xtz3 xt4 xtz4 xt5 xtz5
        replace hB := below_seq hB hk
        replace xs := xs.seq hk
        replace xt := xt.seq hk
        clear hk
        obtain ⟨xs0, xsz0, xs1, xsz1, xs2, xsz2, xs3, xsz3, xs4, xsz4, xs5, xsz5⟩ := xs.f6
        obtain ⟨xt0, xtz0, xt1, xtz1, xt2, xtz2, xt3, xtz3, xt4, xtz4, xt5, xtz5⟩ := xt.f6
        try go_wp2_with fail
        clear xs0 xsz0 xs1 xsz1 xs2 xsz2 xs3 xsz3 xs4 xsz4 xs5 xsz5 xt0 xtz0 xt1 xtz1 xt2 xtz2 xt3 xtz3 xt4 xtz4 xt5 xtz5
        clear hHeld
        refine hK.out _ _ ?_ (fun hHeld => ?_)
        · exact ⟨xs.cell 0 rfl, xs.cell 1 rfl, xs.cell 2 rfl, xs.cell 3 rfl, xs.cell 4 rfl, xs.cell 5 rfl, xt.cell 0 rfl, xt.cell 1 rfl, xt.cell 2 rfl, xt.cell 3 rfl, xt.cell 4 rfl, xt.cell 5 rfl⟩
        clear hK K
        try simp only [Act.put, l1, l2, l3, l4, l5, l6]
        refine tk 4 (v := ?_) rfl (Or.inl ⟨by rfl, ?_⟩) ?_; rotate_left
        · intro w hSw; (try dsimp only at hSw); go_simp; try with_reducible rfl
        try simp only [Act.put, l1, l2, l3, l4, l5, l6]
        refine tk 8 (v := ?_) rfl (Or.inl ⟨by rfl, ?_⟩) ?_; rotate_left
        · intro w hSw; (try dsimp only at hSw); go_simp; try with_reducible rfl
        try simp only [Act.put, l1, l2, l3, l4, l5, l6]
        refine tk 9 (v := ?_) rfl (Or.inl ⟨by rfl, ?_⟩) ?_; rotate_left
        · intro w hSw; (try dsimp only at hSw); go_simp; try with_reducible rfl
        try simp only [Act.put, l1, l2, l3, l4, l5, l6]
        refine wpAnyH_done (by kernel_rfl) ?_ _
        clear hHeld
        obtain ⟨xs0, xsz0, xs1, xsz1, xs2, xsz2, xs3, xsz3, xs4, xsz4, xs5, xsz5⟩ := xs.f6
        obtain ⟨xt0, xtz0, xt1, xtz1, xt2, xtz2, xt3, xtz3, xt4, xtz4, xt5, xtz5⟩ := xt.f6
        go_wp2
        go_ret
        exact ⟨rfl, hB⟩
      · have np : ((P : Int) == (Q : Int)) = false := beq_eq_false_iff_ne.2 (fun h => e (hpq.1 (Int.ofNat_inj.1 h)))
        have e2 : ¬ a5 = n := fun h => e h.symm
        clear hpq
        have hB : Below W.heap.size W ((W.alloc (.cells #[.int .i64 a1, .bool a2, .bool a3, .int .i64 a4, .int .i64 a5, .int .i64 a6] 23)).alloc (.cells #[.int .i64 a1, .bool a2, .bool a3, .int .i64 a4, .int .i64 n, .int .i64 a6] 23)) := (((Below.refl _ _).alloc (Nat.le_refl _) _).alloc (by simp) _)
        have xs := ((Box.new 23 W [.int .i64 a1, .bool a2, .bool a3, .int .i64 a4, .int .i64 a5, .int .i64 a6]).alloc (.cells #[.int .i64 a1, .bool a2, .bool a3, .int .i64 a4, .int .i64 n, .int .i64 a6] 23))
        have xt : Box 23 ((W.alloc (.cells #[.int .i64 a1, .bool a2, .bool a3, .int .i64 a4, .int .i64 a5, .int .i64 a6] 23)).alloc (.cells #[.int .i64 a1, .bool a2, .bool a3, .int .i64 a4, .int .i64 n, .int .i64 a6] 23)) (W.heap.size + 1) [.int .i64 a1, .bool a2, .bool a3, .int .i64 a4, .int .i64 n, .int .i64 a6] := by have h := (Box.new 23 (W.alloc (.cells #[.int .i64 a1, .bool a2, .bool a3, .int .i64 a4, .int .i64 a5, .int .i64 a6] 23)) [.int .i64 a1, .bool a2, .bool a3, .int .i64 a4, .int .i64 n, .int .i64 a6]); rwa [World.size_alloc] at h
        have le_xt : W.heap.size ≤ W.heap.size + 1 := by omega
        have xsC0 := (Box.new 23 W [.int .i64 a1, .bool a2, .bool a3, .int .i64 a4, .int .i64 a5, .int .i64 a6]).cell 0 rfl
        have xsD0 := fun o : Obj => ((Box.new 23 W [.int .i64 a1, .bool a2, .bool a3, .int .i64 a4, .int .i64 a5, .int .i64 a6]).alloc o).cell 0 rfl
        have xsC1 := (Box.new 23 W [.int .i64 a1, .bool a2, .bool a3, .int .i64 a4, .int .i64 a5, .int .i64 a6]).cell 1 rfl
        have xsD1 := fun o : Obj => ((Box.new 23 W [.int .i64 a1, .bool a2, .bool a3, .int .i64 a4, .int .i64 a5, .int .i64 a6]).alloc o).cell 1 rfl
        have xsC2 := (Box.new 23 W [.int .i64 a1, .bool a2, .bool a3, .int .i64 a4, .int .i64 a5, .int .i64 a6]).cell 2 rfl
        have xsD2 := fun o : Obj => ((Box.new 23 W [.int .i64 a1, .bool a2, .bool a3, .int .i64 a4, .int .i64 a5, .int .i64 a6]).alloc o).cell 2 rfl
        have xsC3 := (Box.new 23 W [.int .i64 a1, .bool a2, .bool a3, .int .i64 a4, .int .i64 a5, .int .i64 a6]).cell 3 rfl
        have xsD3 := fun o : Obj => ((Box.new 23 W [.int .i64 a1, .bool a2, .bool a3, .int .i64 a4, .int .i64 a5, .int .i64 a6]).alloc o).cell 3 rfl
        have xsC4 := (Box.new 23 W [.int .i64 a1, .bool a2, .bool a3, .int .i64 a4, .int .i64 a5, .int .i64 a6]).cell 4 rfl
        have xsD4 := fun o : Obj => ((Box.new 23 W [.int .i64 a1, .bool a2, .bool a3, .int .i64 a4, .int .i64 a5, .int .i64 a6]).alloc o).cell 4 rfl
        have xsC5 := (Box.new 23 W [.int .i64 a1, .bool a2, .bool a3, .int .i64 a4, .int .i64 a5, .int .i64 a6]).cell 5 rfl
        have xsD5 := fun o : Obj => ((Box.new 23 W [.int .i64 a1, .bool a2, .bool a3, .int .i64 a4, .int .i64 a5, .int .i64 a6]).alloc o).cell 5 rfl
        go_enter Try.func8, Try.ntmps8
        obtain ⟨xs0, xsz0, xs1, xsz1, xs2, xsz2, xs3, xsz3, xs4, xsz4, xs5, xsz5⟩ := xs.f6
        obtain ⟨xt0, xtz0, xt1, xtz1, xt2, xtz2, xt3, xtz3, xt4, xtz4, xt5, xtz5⟩ := xt.f6
        go_wp2_with fail
        clear hw2 xsC0 xsD0 xsC1 xsD1 xsC2 xsD2 xsC3 xsD3 xsC4 xsD4 xsC5 xsD5
        refine (TL.out _).mono ?_
        rintro e V1 ⟨rfl, hk⟩
        clear xs0 xsz0 xs1 xsz1 xs2 xsz2 xs3 xsz3 xs4 xsz4 xs5 xsz5 xt0 xtz0 xt1 xtz1 xt2 xtz2 xt3 xtz3 xt4 xtz4 xt5 xtz5
        replace hB := below_seq hB hk
        replace xs := xs.seq hk
        replace xt := xt.seq hk
        clear hk
        obtain ⟨xs0, xsz0, xs1, xsz1, xs2, xsz2, xs3, xsz3, xs4, xsz4, xs5, xsz5⟩ := xs.f6
        obtain ⟨xt0, xtz0, xt1, xtz1, xt2, xtz2, xt3, xtz3, xt4, xtz4, xt5, xtz5⟩ := xt.f6
        go_wp2_with fail
        refine (TM.out _).mono ?_
        rintro e V2 ⟨rfl, hk⟩
        clear xs0 xsz0 xs1 xsz1 xs2 xsz2 xs3 xsz3 xs4 xsz4 xs5 xsz5 xt0 xtz0 xt1 xtz1 xt2 xtz2 xt3 xtz3 xt4 xtz4 xt5 xtz5
        replace hB := below_seq hB hk
        replace xs := xs.seq hk
        replace xt := xt.seq hk
        clear hk
        obtain ⟨xs0, xsz0, xs1, xsz1, xs2, xsz2, xs3, xsz3, xs4, xsz4, xs5, xsz5⟩ := xs.f6
        obtain ⟨xt0, xtz0, xt1, xtz1, xt2, xtz2, xt3, xtz3, xt4, xtz4, xt5, xtz5⟩ := xt.f6
        go_wp2_with fail
        refine (shown14 _).mono ?_
        rintro e V3 ⟨rfl, hk⟩
        clear xs0 xsz0 xs1 xsz1 xs2 xsz2 xs3 xsz3 xs4 xsz4 xs5 xsz5 xt0 xtz0 xt1 xtz1 xt2 xtz2 xt3 xtz3 xt4 xtz4 xt5 xtz5
        replace hB := below_seq hB hk
        replace xs := xs.seq hk
        replace xt := xt.seq hk
        clear hk
        obtain ⟨xs0, xsz0, xs1, xsz1, xs2, xsz2, xs3, xsz3, xs4, xsz4, xs5, xsz5⟩ := xs.f6
        obtain ⟨xt0, xtz0, xt1, xtz1, xt2, xtz2, xt3, xtz3, xt4, xtz4, xt5, xtz5⟩ := xt.f6
        go_wp2_with fail
        clear xs0 xsz0 xs1 xsz1 xs2 xsz2 xs3 xsz3 xs4 xsz4 xs5 xsz5 xt0 xtz0 xt1 xtz1 xt2 xtz2 xt3 xtz3 xt4 xtz4 xt5 xtz5
        replace hB := hB.drew
        replace xs := xs.drew
        replace xt := xt.drew
        refine wp_region_held_drew (S := fun w' => w'.cell? ⟨W.heap.size, 0, none⟩ = some (.int .i64 a1) ∧ w'.cell? ⟨W.heap.size, 1, none⟩ = some (.bool a2) ∧ w'.cell? ⟨W.heap.size, 2, none⟩ = some (.bool a3) ∧ w'.cell? ⟨W.heap.size, 3, none⟩ = some (.int .i64 a4) ∧ w'.cell? ⟨W.heap.size, 4, none⟩ = some (.int .i64 a5) ∧ w'.cell? ⟨W.heap.size, 5, none⟩ = some (.int .i64 a6) ∧ w'.cell? ⟨W.heap.size + 1, 0, none⟩ = some (.int .i64 a1) ∧ w'.cell? ⟨W.heap.size + 1, 1, none⟩ = some (.bool a2) ∧ w'.cell? ⟨W.heap.size + 1, 2, none⟩ = some (.bool a3) ∧ w'.cell? ⟨W.heap.size + 1, 3, none⟩ = some (.int .i64 a4) ∧ w'.cell? ⟨W.heap.size + 1, 4, none⟩ = some (.int .i64 n) ∧ w'.cell? ⟨W.heap.size + 1, 5, none⟩ = some (.int .i64 a6)) (by kernel_rfl) ?_ (fun hHeld => ?_)
        · exact ⟨xs.cell 0 rfl, xs.cell 1 rfl, xs.cell 2 rfl, xs.cell 3 rfl, xs.cell 4 rfl, xs.cell 5 rfl, xt.cell 0 rfl, xt.cell 1 rfl, xt.cell 2 rfl, xt.cell 3 rfl, xt.cell 4 rfl, xt.cell 5 rfl⟩
        generalize V3.drew = V4 at *
        refine tk 0 (v := ?_) rfl (Or.inl ⟨by rfl, ?_⟩) ?_; rotate_left
        · intro w hSw; (try dsimp only at hSw); go_simp; try with_reducible rfl
        try simp only [Act.put, l1, l2, l3, l4, l5, l6]
        refine tk 2 (v := ?_) rfl (Or.inl ⟨by rfl, ?_⟩) ?_; rotate_left
        · intro w hSw; (try dsimp only at hSw); go_simp; try with_reducible rfl
        try simp only [Act.put, l1, l2, l3, l4, l5, l6]
        refine tk 5 (v := ?_) rfl (Or.inl ⟨by rfl, ?_⟩) ?_; rotate_left
        · intro w hSw; (try dsimp only at hSw); go_simp; try with_reducible rfl
        try simp only [Act.put, l1, l2, l3, l4, l5, l6]
        refine tk 6 (v := ?_) rfl (Or.inl ⟨by rfl, ?_⟩) ?_; rotate_left
        · intro w hSw; (try dsimp only at hSw); go_simp; try with_reducible rfl
        try simp only [Act.put, l1, l2, l3, l4, l5, l6]
        refine tk 7 (v := ?_) rfl (Or.inl ⟨by rfl, ?_⟩) ?_; rotate_left
        · intro w hSw; (try dsimp only at hSw); go_simp; try with_reducible rfl
        try simp only [Act.put, l1, l2, l3, l4, l5, l6]
        refine wpAnyH_ready (rs := [1]) (by kernel_rfl) (by simp) ?_
        refine AllReadyH.cons rfl (fun K hK => ?_) AllReadyH.nil
        obtain ⟨xs0, xsz0, xs1, xsz1, xs2, xsz2, xs3, xsz3, xs4, xsz4, xs5, xsz5⟩ := xs.f6
        obtain ⟨xt0, xtz0, xt1, xtz1, xt2, xtz2, xt3, xtz3, xt4, xtz4, xt5, xtz5⟩ := xt.f6
        go_simp
        refine (TP.out _).mono ?_
        rintro e V5 ⟨rfl, hk⟩
        clear xs0 xsz0 xs1 xsz1 xs2 xsz2 xs3 xsz3 xs4 xsz4 xs5 xsz5 xt0 xtz0 xt1 xtz1 xt2 xtz2 xt3 xtz3 xt4 xtz4 xt5 xtz5
        replace hB := below_seq hB hk
        replace xs := xs.seq hk
        replace xt := xt.seq hk
        clear hk
        obtain ⟨xs0, xsz0, xs1, xsz1, xs2, xsz2, xs3, xsz3, xs4, xsz4, xs5, xsz5⟩ := xs.f6
        obtain ⟨xt0, xtz0, xt1, xtz1, xt2, xtz2, xt3, xtz3, xt4, xtz4, xt5, xtz5⟩ := xt.f6
        try go_wp2_with fail
        clear xs0 xsz0 xs1 xsz1 xs2 xsz2 xs3 xsz3 xs4 xsz4 xs5 xsz5 xt0 xtz0 xt1 xtz1 xt2 xtz2 xt3 xtz3 xt4 xtz4 xt5 xtz5
        clear hHeld
        refine hK.out _ _ ?_ (fun hHeld => ?_)
        · exact ⟨xs.cell 0 rfl, xs.cell 1 rfl, xs.cell 2 rfl, xs.cell 3 rfl, xs.cell 4 rfl, xs.cell 5 rfl, xt.cell 0 rfl, xt.cell 1 rfl, xt.cell 2 rfl, xt.cell 3 rfl, xt.cell 4 rfl, xt.cell 5 rfl⟩
        clear hK K
        try simp only [Act.put, l1, l2, l3, l4, l5, l6]
        refine wpAnyH_ready (rs := [3]) (by kernel_rfl) (by simp) ?_
        refine AllReadyH.cons rfl (fun K hK => ?_) AllReadyH.nil
        obtain ⟨xs0, xsz0, xs1, xsz1, xs2, xsz2, xs3, xsz3, xs4, xsz4, xs5, xsz5⟩ := xs.f6
        obtain ⟨xt0, xtz0, xt1, xtz1, xt2, xtz2, xt3, xtz3, xt4, xtz4, xt5, xtz5⟩ := xt.f6
        go_simp
        refine (TQ.out _).mono ?_
        rintro e V6 ⟨rfl, hk⟩
        clear xs0 xsz0 xs1 xsz1 xs2 xsz2 xs3 xsz3 xs4 xsz4 xs5 xsz5 xt0 xtz0 xt1 xtz1 xt2 xtz2 xt3 xtz3 xt4 xtz4 xt5 xtz5
        replace hB := below_seq hB hk
        replace xs := xs.seq hk
        replace xt := xt.seq hk
        clear hk
        obtain ⟨xs0, xsz0, xs1, xsz1, xs2, xsz2, xs3, xsz3, xs4, xsz4, xs5, xsz5⟩ := xs.f6
        obtain ⟨xt0, xtz0, xt1, xtz1, xt2, xtz2, xt3, xtz3, xt4, xtz4, xt5, xtz5⟩ := xt.f6
        try go_wp2_with fail
        clear xs0 xsz0 xs1 xsz1 xs2 xsz2 xs3 xsz3 xs4 xsz4 xs5 xsz5 xt0 xtz0 xt1 xtz1 xt2 xtz2 xt3 xtz3 xt4 xtz4 xt5 xtz5
        clear hHeld
        refine hK.out _ _ ?_ (fun hHeld => ?_)
        · exact ⟨xs.cell 0 rfl, xs.cell 1 rfl, xs.cell 2 rfl, xs.cell 3 rfl, xs.cell 4 rfl, xs.cell 5 rfl, xt.cell 0 rfl, xt.cell 1 rfl, xt.cell 2 rfl, xt.cell 3 rfl, xt.cell 4 rfl, xt.cell 5 rfl⟩
        clear hK K
        try simp only [Act.put, l1, l2, l3, l4, l5, l6]
        refine tk 4 (v := ?_) rfl (Or.inl ⟨by rfl, ?_⟩) ?_; rotate_left
        · intro w hSw; (try dsimp only at hSw); go_simp; try with_reducible rfl
        try simp only [Act.put, l1, l2, l3, l4, l5, l6]
        refine tk 8 (v := ?_) rfl (Or.inl ⟨by rfl, ?_⟩) ?_; rotate_left
        · intro w hSw; (try dsimp only at hSw); go_simp; try with_reducible rfl
        try simp only [Act.put, l1, l2, l3, l4, l5, l6]
        refine tk 9 (v := ?_) rfl (Or.inl ⟨by rfl, ?_⟩) ?_; rotate_left
        · intro w hSw; (try dsimp only at hSw); go_simp; try with_reducible rfl
        try simp only [Act.put, l1, l2, l3, l4, l5, l6]
        refine wpAnyH_done (by kernel_rfl) ?_ _
        clear hHeld
        obtain ⟨xs0, xsz0, xs1, xsz1, xs2, xsz2, xs3, xsz3, xs4, xsz4, xs5, xsz5⟩ := xs.f6
        obtain ⟨xt0, xtz0, xt1, xtz1, xt2, xtz2, xt3, xtz3, xt4, xtz4, xt5, xtz5⟩ := xt.f6
        go_wp2
        go_ret
        exact ⟨rfl, hB⟩

set_option maxRecDepth 100000 in
set_option maxHeartbeats 4000000 in
theorem field5 (a1 : Int) (a2 a3 : Bool) (a4 a5 a6 n : Int) (which : UInt8) (L M : Bool) (P Q : Nat) (W : World) (hw : which.toNat % 6 = 5) (TL : ∀ W : World, Gives Try.prog 11 #[.agg #[.int .i64 a1, .bool a2, .bool a3, .int .i64 a4, .int .i64 a5, .int .i64 a6]] W (.bool L)) (TM : ∀ W : World, Gives Try.prog 11 #[.agg #[.int .i64 a1, .bool a2, .bool a3, .int .i64 a4, .int .i64 a5, .int .i64 n]] W (.bool M)) (TP : ∀ W : World, Gives Try.prog 13 #[.agg #[.int .i64 a1, .bool a2, .bool a3, .int .i64 a4, .int .i64 a5, .int .i64 a6]] W (.int .u64 (P : Int))) (TQ : ∀ W : World, Gives Try.prog 13 #[.agg #[.int .i64 a1, .bool a2, .bool a3, .int .i64 a4, .int .i64 a5, .int .i64 n]] W (.int .u64 (Q : Int))) (hpq : L = true → M = true → (P = Q ↔ n = a6)) :
    Gives Try.prog 8 #[.agg #[.int .i64 a1, .bool a2, .bool a3, .int .i64 a4, .int .i64 a5, .int .i64 a6], .int .u8 (which.toNat : Int), .int .i64 n] W (.bool true) := by
  have hw2 : (which.toNat : Int) % 6 = 5 := by omega
  clear hw
  replace TL := Lib.hid TL
  replace TM := Lib.hid TM
  replace TP := Lib.hid TP
  replace TQ := Lib.hid TQ
  cases L
  · skip
    clear hpq
    have hB : Below W.heap.size W ((W.alloc (.cells #[.int .i64 a1, .bool a2, .bool a3, .int .i64 a4, .int .i64 a5, .int .i64 a6] 23)).alloc (.cells #[.int .i64 a1, .bool a2, .bool a3, .int .i64 a4, .int .i64 a5, .int .i64 n] 23)) := (((Below.refl _ _).alloc (Nat.le_refl _) _).alloc (by simp) _)
    have xs := ((Box.new 23 W [.int .i64 a1, .bool a2, .bool a3, .int .i64 a4, .int .i64 a5, .int .i64 a6]).alloc (.cells #[.int .i64 a1, .bool a2, .bool a3, .int .i64 a4, .int .i64 a5, .int .i64 n] 23))
    have xt : Box 23 ((W.alloc (.cells #[.int .i64 a1, .bool a2, .bool a3, .int .i64 a4, .int .i64 a5, .int .i64 a6] 23)).alloc (.cells #[.int .i64 a1, .bool a2, .bool a3, .int .i64 a4, .int .i64 a5, .int .i64 n] 23)) (W.heap.size + 1) [.int .i64 a1, .bool a2, .bool a3, .int .i64 a4, .int .i64 a5, .int .i64 n] := by have h := (Box.new 23 (W.alloc (.cells #[.int .i64 a1, .bool a2, .bool a3, .int .i64 a4, .int .i64 a5, .int .i64 a6] 23)) [.int .i64 a1, .bool a2, .bool a3, .int .i64 a4, .int .i64 a5, .int .i64 n]); rwa [World.size_alloc] at h
    have le_xt : W.heap.size ≤ W.heap.size + 1 := by omega
    have xsC0 := (Box.new 23 W [.int .i64 a1, .bool a2, .bool a3, .int .i64 a4, .int .i64 a5, .int .i64 a6]).cell 0 rfl
    have xsD0 := fun o : Obj => ((Box.new 23 W [.int .i64 a1, .bool a2, .bool a3, .int .i64 a4, .int .i64 a5, .int .i64 a6]).alloc o).cell 0 rfl
    have xsC1 := (Box.new 23 W [.int .i64 a1, .bool a2, .bool a3, .int .i64 a4, .int .i64 a5, .int .i64 a6]).cell 1 rfl
    have xsD1 := fun o : Obj => ((Box.new 23 W [.int .i64 a1, .bool a2, .bool a3, .int .i64 a4, .int .i64 a5, .int .i64 a6]).alloc o).cell 1 rfl
    have xsC2 := (Box.new 23 W [.int .i64 a1, .bool a2, .bool a3, .int .i64 a4, .int .i64 a5, .int .i64 a6]).cell 2 rfl
    have xsD2 := fun o : Obj => ((Box.new 23 W [.int .i64 a1, .bool a2, .bool a3, .int .i64 a4, .int .i64 a5, .int .i64 a6]).alloc o).cell 2 rfl
    have xsC3 := (Box.new 23 W [.int .i64 a1, .bool a2, .bool a3, .int .i64 a4, .int .i64 a5, .int .i64 a6]).cell 3 rfl
    have xsD3 := fun o : Obj => ((Box.new 23 W [.int .i64 a1, .bool a2, .bool a3, .int .i64 a4, .int .i64 a5, .int .i64 a6]).alloc o).cell 3 rfl
    have xsC4 := (Box.new 23 W [.int .i64 a1, .bool a2, .bool a3, .int .i64 a4, .int .i64 a5, .int .i64 a6]).cell 4 rfl
    have xsD4 := fun o : Obj => ((Box.new 23 W [.int .i64 a1, .bool a2, .bool a3, .int .i64 a4, .int .i64 a5, .int .i64 a6]).alloc o).cell 4 rfl
    have xsC5 := (Box.new 23 W [.int .i64 a1, .bool a2, .bool a3, .int .i64 a4, .int .i64 a5, .int .i64 a6]).cell 5 rfl
    have xsD5 := fun o : Obj => ((Box.new 23 W [.int .i64 a1, .bool a2, .bool a3, .int .i64 a4, .int .i64 a5, .int .i64 a6]).alloc o).cell 5 rfl
    go_enter Try.func8, Try.ntmps8
    obtain ⟨xs0, xsz0, xs1, xsz1, xs2, xsz2, xs3, xsz3, xs4, xsz4, xs5, xsz5⟩ := xs.f6
    obtain ⟨xt0, xtz0, xt1, xtz1, xt2, xtz2, xt3, xtz3, xt4, xtz4, xt5, xtz5⟩ := xt.f6
    go_wp2_with fail
    clear hw2 xsC0 xsD0 xsC1 xsD1 xsC2 xsD2 xsC3 xsD3 xsC4 xsD4 xsC5 xsD5
    refine (TL.out _).mono ?_
    rintro e V1 ⟨rfl, hk⟩
    clear xs0 xsz0 xs1 xsz1 xs2 xsz2 xs3 xsz3 xs4 xsz4 xs5 xsz5 xt0 xtz0 xt1 xtz1 xt2 xtz2 xt3 xtz3 xt4 xtz4 xt5 xtz5
    replace hB := below_seq hB hk
    replace xs := xs.seq hk
    replace xt := xt.seq hk
    clear hk
    obtain ⟨xs0, xsz0, xs1, xsz1, xs2, xsz2, xs3, xsz3, xs4, xsz4, xs5, xsz5⟩ := xs.f6
    obtain ⟨xt0, xtz0, xt1, xtz1, xt2, xtz2, xt3, xtz3, xt4, xtz4, xt5, xtz5⟩ := xt.f6
    go_wp2_with fail
    refine (shown14 _).mono ?_
    rintro e V2 ⟨rfl, hk⟩
    clear xs0 xsz0 xs1 xsz1 xs2 xsz2 xs3 xsz3 xs4 xsz4 xs5 xsz5 xt0 xtz0 xt1 xtz1 xt2 xtz2 xt3 xtz3 xt4 xtz4 xt5 xtz5
    replace hB := below_seq hB hk
    replace xs := xs.seq hk
    replace xt := xt.seq hk
    clear hk
    obtain ⟨xs0, xsz0, xs1, xsz1, xs2, xsz2, xs3, xsz3, xs4, xsz4, xs5, xsz5⟩ := xs.f6
    obtain ⟨xt0, xtz0, xt1, xtz1, xt2, xtz2, xt3, xtz3, xt4, xtz4, xt5, xtz5⟩ := xt.f6
    go_wp2
    go_ret
    exact ⟨rfl, hB⟩
  · cases M
    · skip
      clear hpq
      have hB : Below W.heap.size W ((W.alloc (.cells #[.int .i64 a1, .bool a2, .bool a3, .int .i64 a4, .int .i64 a5, .int .i64 a6] 23)).alloc (.cells #[.int .i64 a1, .bool a2, .bool a3, .int .i64 a4, .int .i64 a5, .int .i64 n] 23)) := (((Below.refl _ _).alloc (Nat.le_refl _) _).alloc (by simp) _)
      have xs := ((Box.new 23 W [.int .i64 a1, .bool a2, .bool a3, .int .i64 a4, .int .i64 a5, .int .i64 a6]).alloc (.cells #[.int .i64 a1, .bool a2, .bool a3, .int .i64 a4, .int .i64 a5, .int .i64 n] 23))
      have xt : Box 23 ((W.alloc (.cells #[.int .i64 a1, .bool a2, .bool a3, .int .i64 a4, .int .i64 a5, .int .i64 a6] 23)).alloc (.cells #[.int .i64 a1, .bool a2, .bool a3, .int .i64 a4, .int .i64 a5, .int .i64 n] 23)) (W.heap.size + 1) [.int .i64 a1, .bool a2, .bool a3, .int .i64 a4, .int .i64 a5, .int .i64 n] := by have h := (Box.new 23 (W.alloc (.cells #[.int .i64 a1, .bool a2, .bool a3, .int .i64 a4, .int .i64 a5, .int .i64 a6] 23)) [.int .i64 a1, .bool a2, .bool a3, .int .i64 a4, .int .i64 a5, .int .i64 n]); rwa [World.size_alloc] at h
      have le_xt : W.heap.size ≤ W.heap.size + 1 := by omega
      have xsC0 := (Box.new 23 W [.int .i64 a1, .bool a2, .bool a3, .int .i64 a4, .int .i64 a5, .int .i64 a6]).cell 0 rfl
      have xsD0 := fun o : Obj => ((Box.new 23 W [.int .i64 a1, .bool a2, .bool a3, .int .i64 a4, .int .i64 a5, .int .i64 a6]).alloc o).cell 0 rfl
      have xsC1 := (Box.new 23 W [.int .i64 a1, .bool a2, .bool a3, .int .i64 a4, .int .i64 a5, .int .i64 a6]).cell 1 rfl
      have xsD1 := fun o : Obj => ((Box.new 23 W [.int .i64 a1, .bool a2, .bool a3, .int .i64 a4, .int .i64 a5, .int .i64 a6]).alloc o).cell 1 rfl
      have xsC2 := (Box.new 23 W [.int .i64 a1, .bool a2, .bool a3, .int .i64 a4, .int .i64 a5, .int .i64 a6]).cell 2 rfl
      have xsD2 := fun o : Obj => ((Box.new 23 W [.int .i64 a1, .bool a2, .bool a3, .int .i64 a4, .int .i64 a5, .int .i64 a6]).alloc o).cell 2 rfl
      have xsC3 := (Box.new 23 W [.int .i64 a1, .bool a2, .bool a3, .int .i64 a4, .int .i64 a5, .int .i64 a6]).cell 3 rfl
      have xsD3 := fun o : Obj => ((Box.new 23 W [.int .i64 a1, .bool a2, .bool a3, .int .i64 a4, .int .i64 a5, .int .i64 a6]).alloc o).cell 3 rfl
      have xsC4 := (Box.new 23 W [.int .i64 a1, .bool a2, .bool a3, .int .i64 a4, .int .i64 a5, .int .i64 a6]).cell 4 rfl
      have xsD4 := fun o : Obj => ((Box.new 23 W [.int .i64 a1, .bool a2, .bool a3, .int .i64 a4, .int .i64 a5, .int .i64 a6]).alloc o).cell 4 rfl
      have xsC5 := (Box.new 23 W [.int .i64 a1, .bool a2, .bool a3, .int .i64 a4, .int .i64 a5, .int .i64 a6]).cell 5 rfl
      have xsD5 := fun o : Obj => ((Box.new 23 W [.int .i64 a1, .bool a2, .bool a3, .int .i64 a4, .int .i64 a5, .int .i64 a6]).alloc o).cell 5 rfl
      go_enter Try.func8, Try.ntmps8
      obtain ⟨xs0, xsz0, xs1, xsz1, xs2, xsz2, xs3, xsz3, xs4, xsz4, xs5, xsz5⟩ := xs.f6
      obtain ⟨xt0, xtz0, xt1, xtz1, xt2, xtz2, xt3, xtz3, xt4, xtz4, xt5, xtz5⟩ := xt.f6
      go_wp2_with fail
      clear hw2 xsC0 xsD0 xsC1 xsD1 xsC2 xsD2 xsC3 xsD3 xsC4 xsD4 xsC5 xsD5
      refine (TL.out _).mono ?_
      rintro e V1 ⟨rfl, hk⟩
      clear xs0 xsz0 xs1 xsz1 xs2 xsz2 xs3 xsz3 xs4 xsz4 xs5 xsz5 xt0 xtz0 xt1 xtz1 xt2 xtz2 xt3 xtz3 xt4 xtz4 xt5 xtz5
      replace hB := below_seq hB hk
      replace xs := xs.seq hk
      replace xt := xt.seq hk
      clear hk
      obtain ⟨xs0, xsz0, xs1, xsz1, xs2, xsz2, xs3, xsz3, xs4, xsz4, xs5, xsz5⟩ := xs.f6
      obtain ⟨xt0, xtz0, xt1, xtz1, xt2, xtz2, xt3, xtz3, xt4, xtz4, xt5, xtz5⟩ := xt.f6
      go_wp2_with fail
      refine (TM.out _).mono ?_
      rintro e V2 ⟨rfl, hk⟩
      clear xs0 xsz0 xs1 xsz1 xs2 xsz2 xs3 xsz3 xs4 xsz4 xs5 xsz5 xt0 xtz0 xt1 xtz1 xt2 xtz2 xt3 xtz3 xt4 xtz4 xt5 xtz5
      replace hB := below_seq hB hk
      replace xs := xs.seq hk
      replace xt := xt.seq hk
      clear hk
      obtain ⟨xs0, xsz0, xs1, xsz1, xs2, xsz2, xs3, xsz3, xs4, xsz4, xs5, xsz5⟩ := xs.f6
      obtain ⟨xt0, xtz0, xt1, xtz1, xt2, xtz2, xt3, xtz3, xt4, xtz4, xt5, xtz5⟩ := xt.f6
      go_wp2_with fail
      refine (shown14 _).mono ?_
      rintro e V3 ⟨rfl, hk⟩
      clear xs0 xsz0 xs1 xsz1 xs2 xsz2 xs3 xsz3 xs4 xsz4 xs5 xsz5 xt0 xtz0 xt1 xtz1 xt2 xtz2 xt3 xtz3 xt4 xtz4 xt5 xtz5
      replace hB := below_seq hB hk
      replace xs := xs.seq hk
      replace xt := xt.seq hk
      clear hk
      obtain ⟨xs0, xsz0, xs1, xsz1, xs2, xsz2, xs3, xsz3, xs4, xsz4, xs5, xsz5⟩ := xs.f6
      obtain ⟨xt0, xtz0, xt1, xtz1, xt2, xtz2, xt3, xtz3, xt4, xtz4, xt5, xtz5⟩ := xt.f6
      go_wp2
      go_ret
      exact ⟨rfl, hB⟩
    · replace hpq := hpq rfl rfl
      by_cases e : n = a6
      · obtain rfl := hpq.2 e
        clear hpq
        have e3 : a6 = n := e.symm
        clear e
        subst e3
        have hB : Below W.heap.size W ((W.alloc (.cells #[.int .i64 a1, .bool a2, .bool a3, .int .i64 a4, .int .i64 a5, .int .i64 a6] 23)).alloc (.cells #[.int .i64 a1, .bool a2, .bool a3, .int .i64 a4, .int .i64 a5, .int .i64 a6] 23)) := (((Below.refl _ _).alloc (Nat.le_refl _) _).alloc (by simp) _)
        have xs := ((Box.new 23 W [.int .i64 a1, .bool a2, .bool a3, .int .i64 a4, .int .i64 a5, .int .i64 a6]).alloc (.cells #[.int .i64 a1, .bool a2, .bool a3, .int .i64 a4, .int .i64 a5, .int .i64 a6] 23))
        have xt : Box 23 ((W.alloc (.cells #[.int .i64 a1, .bool a2, .bool a3, .int .i64 a4, .int .i64 a5, .int .i64 a6] 23)).alloc (.cells #[.int .i64 a1, .bool a2, .bool a3, .int .i64 a4, .int .i64 a5, .int .i64 a6] 23)) (W.heap.size + 1) [.int .i64 a1, .bool a2, .bool a3, .int .i64 a4, .int .i64 a5, .int .i64 a6] := by have h := (Box.new 23 (W.alloc (.cells #[.int .i64 a1, .bool a2, .bool a3, .int .i64 a4, .int .i64 a5, .int .i64 a6] 23)) [.int .i64 a1, .bool a2, .bool a3, .int .i64 a4, .int .i64 a5, .int .i64 a6]); rwa [World.size_alloc] at h
        have le_xt : W.heap.size ≤ W.heap.size + 1 := by omega
        have xsC0 := (Box.new 23 W [.int .i64 a1, .bool a2, .bool a3, .int .i64 a4, .int .i64 a5, .int .i64 a6]).cell 0 rfl
        have xsD0 := fun o : Obj => ((Box.new 23 W [.int .i64 a1, .bool a2, .bool a3, .int .i64 a4, .int .i64 a5, .int .i64 a6]).alloc o).cell 0 rfl
        have xsC1 := (Box.new 23 W [.int .i64 a1, .bool a2, .bool a3, .int .i64 a4, .int .i64 a5, .int .i64 a6]).cell 1 rfl
        have xsD1 := fun o : Obj => ((Box.new 23 W [.int .i64 a1, .bool a2, .bool a3, .int .i64 a4, .int .i64 a5, .int .i64 a6]).alloc o).cell 1 rfl
        have xsC2 := (Box.new 23 W [.int .i64 a1, .bool a2, .bool a3, .int .i64 a4, .int .i64 a5, .int .i64 a6]).cell 2 rfl
        have xsD2 := fun o : Obj => ((Box.new 23 W [.int .i64 a1, .bool a2, .bool a3, .int .i64 a4, .int .i64 a5, .int .i64 a6]).alloc o).cell 2 rfl
        have xsC3 := (Box.new 23 W [.int .i64 a1, .bool a2, .bool a3, .int .i64 a4, .int .i64 a5, .int .i64 a6]).cell 3 rfl
        have xsD3 := fun o : Obj => ((Box.new 23 W [.int .i64 a1, .bool a2, .bool a3, .int .i64 a4, .int .i64 a5, .int .i64 a6]).alloc o).cell 3 rfl
        have xsC4 := (Box.new 23 W [.int .i64 a1, .bool a2, .bool a3, .int .i64 a4, .int .i64 a5, .int .i64 a6]).cell 4 rfl
        have xsD4 := fun o : Obj => ((Box.new 23 W [.int .i64 a1, .bool a2, .bool a3, .int .i64 a4, .int .i64 a5, .int .i64 a6]).alloc o).cell 4 rfl
        have xsC5 := (Box.new 23 W [.int .i64 a1, .bool a2, .bool a3, .int .i64 a4, .int .i64 a5, .int .i64 a6]).cell 5 rfl
        have xsD5 := fun o : Obj => ((Box.new 23 W [.int .i64 a1, .bool a2, .bool a3, .int .i64 a4, .int .i64 a5, .int .i64 a6]).alloc o).cell 5 rfl
        go_enter Try.func8, Try.ntmps8
        obtain ⟨xs0, xsz0, xs1, xsz1, xs2, xsz2, xs3, xsz3, xs4, xsz4, xs5, xsz5⟩ := xs.f6
        obtain ⟨xt0, xtz0, xt1, xtz1, xt2, xtz2, xt3, xtz3, xt4, xtz4, xt5, xtz5⟩ := xt.f6
        go_wp2_with fail
        clear hw2 xsC0 xsD0 xsC1 xsD1 xsC2 xsD2 xsC3 xsD3 xsC4 xsD4 xsC5 xsD5
        refine (TL.out _).mono ?_
        rintro e V1 ⟨rfl, hk⟩
        clear xs0 xsz0 xs1 xsz1 xs2 xsz2 xs3 xsz3 xs4 xsz4 xs5 xsz5 xt0 xtz0 xt1 xtz1 xt2 xtz2 xt3 xtz3 xt4 xtz4 xt5 xtz5
        replace hB := below_seq hB hk
        replace xs := xs.seq hk
        replace xt := xt.seq hk
        clear hk
        obtain ⟨xs0, xsz0, xs1, xsz1, xs2, xsz2, xs3, xsz3, xs4, xsz4, xs5, xsz5⟩ := xs.f6
        obtain ⟨xt0, xtz0, xt1, xtz1, xt2, xtz2, xt3, xtz3, xt4, xtz4, xt5, xtz5⟩ := xt.f6
        go_wp2_with fail
        refine (TM.out _).mono ?_
        rintro e V2 ⟨rfl, hk⟩
        clear xs0 xsz0 xs1 xsz1 xs2 xsz2 xs3 xsz3 xs4 xsz4 xs5 xsz5 xt0 xtz0 xt1 xtz1 xt2 xtz2 xt3 xtz3 xt4 xtz4 xt5 xtz5
        replace hB := below_seq hB hk
        replace xs := xs.seq hk
        replace xt := xt.seq hk
        clear hk
        obtain ⟨xs0, xsz0, xs1, xsz1, xs2, xsz2, xs3, xsz3, xs4, xsz4, xs5, xsz5⟩ := xs.f6
        obtain ⟨xt0, xtz0, xt1, xtz1, xt2, xtz2, xt3, xtz3, xt4, xtz4, xt5, xtz5⟩ := xt.f6
        go_wp2_with fail
        refine (shown14 _).mono ?_
        rintro e V3 ⟨rfl, hk⟩
        clear xs0 xsz0 xs1 xsz1 xs2 xsz2 xs3 xsz3 xs4 xsz4 xs5 xsz5 xt0 xtz0 xt1 xtz1 xt2 xtz2 xt3 xtz3 xt4 xtz4 xt5 xtz5
        replace hB := below_seq hB hk
        replace xs := xs.seq hk
        replace xt := xt.seq hk
        clear hk
        obtain ⟨xs0, xsz0, xs1, xsz1, xs2, xsz2, xs3, xsz3, xs4, xsz4, xs5, xsz5⟩ := xs.f6
        obtain ⟨xt0, xtz0, xt1, xtz1, xt2, xtz2, xt3, xtz3, xt4, xtz4, xt5, xtz5⟩ := xt.f6
        go_wp2_with fail
        clear xs0 xsz0 xs1 xsz1 xs2 xsz2 xs3 xsz3 xs4 xsz4 xs5 xsz5 xt0 xtz0 xt1 xtz1 xt2 xtz2 xt3 xtz3 xt4 xtz4 xt5 xtz5
        replace hB := hB.drew
        replace xs := xs.drew
        replace xt := xt.drew
        refine wp_region_held_drew (S := fun w' => w'.cell? ⟨W.heap.size, 0, none⟩ = some (.int .i64 a1) ∧ w'.cell? ⟨W.heap.size, 1, none⟩ = some (.bool a2) ∧ w'.cell? ⟨W.heap.size, 2, none⟩ = some (.bool a3) ∧ w'.cell? ⟨W.heap.size, 3, none⟩ = some (.int .i64 a4) ∧ w'.cell? ⟨W.heap.size, 4, none⟩ = some (.int .i64 a5) ∧ w'.cell? ⟨W.heap.size, 5, none⟩ = some (.int .i64 a6) ∧ w'.cell? ⟨W.heap.size + 1, 0, none⟩ = some (.int .i64 a1) ∧ w'.cell? ⟨W.heap.size + 1, 1, none⟩ = some (.bool a2) ∧ w'.cell? ⟨W.heap.size + 1, 2, none⟩ = some (.bool a3) ∧ w'.cell? ⟨W.heap.size + 1, 3, none⟩ = some (.int .i64 a4) ∧ w'.cell? ⟨W.heap.size + 1, 4, none⟩ = some (.int .i64 a5) ∧ w'.cell? ⟨W.heap.size + 1, 5, none⟩ = some (.int .i64 a6)) (by kernel_rfl) ?_ (fun hHeld => ?_)
        · exact ⟨xs.cell 0 rfl, xs.cell 1 rfl, xs.cell 2 rfl, xs.cell 3 rfl, xs.cell 4 rfl, xs.cell 5 rfl, xt.cell 0 rfl, xt.cell 1 rfl, xt.cell 2 rfl, xt.cell 3 rfl, xt.cell 4 rfl, xt.cell 5 rfl⟩
        generalize V3.drew = V4 at *
        refine tk 0 (v := ?_) rfl (Or.inl ⟨by rfl, ?_⟩) ?_; rotate_left
        · intro w hSw; (try dsimp only at hSw); go_simp; try with_reducible rfl
        try simp only [Act.put, l1, l2, l3, l4, l5, l6]
        refine tk 2 (v := ?_) rfl (Or.inl ⟨by rfl, ?_⟩) ?_; rotate_left
        · intro w hSw; (try dsimp only at hSw); go_simp; try with_reducible rfl
        try simp only [Act.put, l1, l2, l3, l4, l5, l6]
        refine tk 5 (v := ?_) rfl (Or.inl ⟨by rfl, ?_⟩) ?_; rotate_left
        · intro w hSw; (try dsimp only at hSw); go_simp; try with_reducible rfl
        try simp only [Act.put, l1, l2, l3, l4, l5, l6]
        refine tk 6 (v := ?_) rfl (Or.inl ⟨by rfl, ?_⟩) ?_; rotate_left
        · intro w hSw; (try dsimp only at hSw); go_simp; try with_reducible rfl
        try simp only [Act.put, l1, l2, l3, l4, l5, l6]
        refine tk 7 (v := ?_) rfl (Or.inl ⟨by rfl, ?_⟩) ?_; rotate_left
        · intro w hSw; (try dsimp only at hSw); go_simp; try with_reducible rfl
        try simp only [Act.put, l1, l2, l3, l4, l5, l6]
        refine wpAnyH_ready (rs := [1]) (by kernel_rfl) (by simp) ?_
        refine AllReadyH.cons rfl (fun K hK => ?_) AllReadyH.nil
        obtain ⟨xs0, xsz0, xs1, xsz1, xs2, xsz2, xs3, xsz3, xs4, xsz4, xs5, xsz5⟩ := xs.f6
        obtain ⟨xt0, xtz0, xt1, xtz1, xt2, xtz2, xt3, xtz3, xt4, xtz4, xt5, xtz5⟩ := xt.f6
        go_simp
        refine (TP.out _).mono ?_
        rintro e V5 ⟨rfl, hk⟩
        clear xs0 xsz0 xs1 xsz1 xs2 xsz2 xs3 xsz3 xs4 xsz4 xs5 xsz5 xt0 xtz0 xt1 xtz1 xt2 xtz2 xt3 xtz3 xt4 xtz4 xt5 xtz5
        replace hB := below_seq hB hk
        replace xs := xs.seq hk
        replace xt := xt.seq hk
        clear hk
        obtain ⟨xs0, xsz0, xs1, xsz1, xs2, xsz2, xs3, xsz3, xs4, xsz4, xs5, xsz5⟩ := xs.f6
        obtain ⟨xt0, xtz0, xt1, xtz1, xt2, xtz2, xt3, xtz3, xt4, xtz4, xt5, xtz5⟩ := xt.f6
        try go_wp2_with fail
        clear xs0 xsz0 xs1 xsz1 xs2 xsz2 xs3 xsz3 xs4 xsz4 xs5 xsz5 xt0 xtz0 xt1 xtz1 xt2 xtz2 xt3 xtz3 xt4 xtz4 xt5 xtz5
        clear hHeld
        refine hK.out _ _ ?_ (fun hHeld => ?_)
        · exact ⟨xs.cell 0 rfl, xs.cell 1 rfl, xs.cell 2 rfl, xs.cell 3 rfl, xs.cell 4 rfl, xs.cell 5 rfl, xt.cell 0 rfl, xt.cell 1 rfl, xt.cell 2 rfl, xt.cell 3 rfl, xt.cell 4 rfl, xt.cell 5 rfl⟩
        clear hK K
        try simp only [Act.put, l1, l2, l3, l4, l5, l6]
        refine wpAnyH_ready (rs := [3]) (by kernel_rfl) (by simp) ?_
        refine AllReadyH.cons rfl (fun K hK => ?_) AllReadyH.nil
        obtain ⟨xs0, xsz0, xs1, xsz1, xs2, xsz2, xs3, xsz3, xs4, xsz4, xs5, xsz5⟩ := xs.f6
        obtain ⟨xt0, xtz0, xt1, xtz1, xt2, xtz2, xt3, xtz3, xt4, xtz4, xt5, xtz5⟩ := xt.f6
        go_simp
        refine (TQ.out _).mono ?_
        rintro e V6 ⟨rfl, hk⟩
        clear xs0 xsz0 xs1 xsz1 xs2 xsz2 xs3 xsz3 xs4 xsz4 xs5 xsz5 xt0 xtz0 xt1 xtz1 xt2 xtz2 xt3 xtz3 xt4 xtz4 xt5 xtz5
        replace hB := below_seq hB hk
        replace xs := xs.seq hk
        replace xt := xt.seq hk
        clear hk
        obtain ⟨xs0, xsz0, xs1, xsz1, xs2, xsz2, xs3, xsz3, xs4, xsz4, xs5, xsz5⟩ := xs.f6
        obtain ⟨xt0, xtz0, xt1, xtz1, xt2, xtz2, xt3, xtz3, xt4, xtz4, xt5, xtz5⟩ := xt.f6
        try go_wp2_with fail
        clear xs0 xsz0 xs1 xsz1 xs2 xsz2 xs3 xsz3 xs4 xsz4 xs5 xsz5 xt0 xtz0 xt1 xtz1 xt2 xtz2 xt3 xtz3 xt4 xtz4 xt5 xtz5
        clear hHeld
        refine hK.out _ _ ?_ (fun hHeld => ?_)
        · exact ⟨xs.cell 0 rfl, xs.cell 1 rfl, xs.cell 2 rfl, xs.cell 3 rfl, xs.cell 4 rfl, xs.cell 5 rfl, xt.cell 0 rfl, xt.cell 1 rfl, xt.cell 2 rfl, xt.cell 3 rfl, xt.cell 4 rfl, xt.cell 5 rfl⟩
        clear hK K
        try simp only [Act.put, l1, l2, l3, l4, l5, l6]
        refine tk 4 (v := ?_) rfl (Or.inl ⟨by rfl, ?_⟩) ?_; rotate_left
        · intro w hSw; (try dsimp only at hSw); go_simp; try with_reducible rfl
        try simp only [Act.put, l1, l2, l3, l4, l5, l6]
        refine tk 8 (v := ?_) rfl (Or.inl ⟨by rfl, ?_⟩) ?_; rotate_left
        · intro w hSw; (try dsimp only at hSw); go_simp; try with_reducible rfl
        try simp only [Act.put, l1, l2, l3, l4, l5, l6]
        refine tk 9 (v := ?_) rfl (Or.inl ⟨by rfl, ?_⟩) ?_; rotate_left
        · intro w hSw; (try dsimp only at hSw); go_simp; try with_reducible rfl
        try simp only [Act.put, l1, l2, l3, l4, l5, l6]
        refine wpAnyH_done (by kernel_rfl) ?_ _
        clear hHeld
        obtain ⟨xs0, xsz0, xs1, xsz1, xs2, xsz2, xs3, xsz3, xs4, xsz4, xs5, xsz5⟩ := xs.f6
        obtain ⟨xt0, xtz0, xt1, xtz1, xt2, xtz2, xt3, xtz3, xt4, xtz4, xt5, xtz5⟩ := xt.f6
        go_wp2
        go_ret
        exact ⟨rfl, hB⟩
      · have np : ((P : Int) == (Q : Int)) = false := beq_eq_false_iff_ne.2 (fun h => e (hpq.1 (Int.ofNat_inj.1 h)))
        have e2 : ¬ a6 = n := fun h => e h.symm
        clear hpq
        have hB : Below W.heap.size W ((W.alloc (.cells #[.int .i64 a1, .bool a2, .bool a3, .int .i64 a4, .int .i64 a5, .int .i64 a6] 23)).alloc (.cells #[.int .i64 a1, .bool a2, .bool a3, .int .i64 a4, .int .i64 a5, .int .i64 n] 23)) := (((Below.refl _ _).alloc (Nat.le_refl _) _).alloc (by simp) _)
        have xs := ((Box.new 23 W [.int .i64 a1, .bool a2, .bool a3, .int .i64 a4, .int .i64 a5, .int .i64 a6]).alloc (.cells #[.int .i64 a1, .bool a2, .bool a3, .int .i64 a4, .int .i64 a5, .int .i64 n] 23))
        have xt : Box 23 ((W.alloc (.cells #[.int .i64 a1, .bool a2, .bool a3, .int .i64 a4, .int .i64 a5, .int .i64 a6] 23)).alloc (.cells #[.int .i64 a1, .bool a2, .bool a3, .int .i64 a4, .int .i64 a5, .int .i64 n] 23)) (W.heap.size + 1) [.int .i64 a1, .bool a2, .bool a3, .int .i64 a4, .int .i64 a5, .int .i64 n] := by have h := (Box.new 23 (W.alloc (.cells #[.int .i64 a1, .bool a2, .bool a3, .int .i64 a4, .int .i64 a5, .int .i64 a6] 23)) [.int .i64 a1, .bool a2, .bool a3, .int .i64 a4, .int .i64 a5, .int .i64 n]); rwa [World.size_alloc] at h
        have le_xt : W.heap.size ≤ W.heap.size + 1 := by omega
        have xsC0 := (Box.new 23 W [.int .i64 a1, .bool a2, .bool a3, .int .i64 a4, .int .i64 a5, .int .i64 a6]).cell 0 rfl
        have xsD0 := fun o : Obj => ((Box.new 23 W [.int .i64 a1, .bool a2, .bool a3, .int .i64 a4, .int .i64 a5, .int .i64 a6]).alloc o).cell 0 rfl
        have xsC1 := (Box.new 23 W [.int .i64 a1, .bool a2, .bool a3, .int .i64 a4, .int .i64 a5, .int .i64 a6]).cell 1 rfl
        have xsD1 := fun o : Obj => ((Box.new 23 W [.int .i64 a1, .bool a2, .bool a3, .int .i64 a4, .int .i64 a5, .int .i64 a6]).alloc o).cell 1 rfl
        have xsC2 := (Box.new 23 W [.int .i64 a1, .bool a2, .bool a3, .int .i64 a4, .int .i64 a5, .int .i64 a6]).cell 2 rfl
        have xsD2 := fun o : Obj => ((Box.new 23 W [.int .i64 a1, .bool a2, .bool a3, .int .i64 a4, .int .i64 a5, .int .i64 a6]).alloc o).cell 2 rfl
        have xsC3 := (Box.new 23 W [.int .i64 a1, .bool a2, .bool a3, .int .i64 a4, .int .i64 a5, .int .i64 a6]).cell 3 rfl
        have xsD3 := fun o : Obj => ((Box.new 23 W [.int .i64 a1, .bool a2, .bool a3, .int .i64 a4, .int .i64 a5, .int .i64 a6]).alloc o).cell 3 rfl
        have xsC4 := (Box.new 23 W [.int .i64 a1, .bool a2, .bool a3, .int .i64 a4, .int .i64 a5, .int .i64 a6]).cell 4 rfl
        have xsD4 := fun o : Obj => ((Box.new 23 W [.int .i64 a1, .bool a2, .bool a3, .int .i64 a4, .int .i64 a5, .int .i64 a6]).alloc o).cell 4 rfl
        have xsC5 := (Box.new 23 W [.int .i64 a1, .bool a2, .bool a3, .int .i64 a4, .int .i64 a5, .int .i64 a6]).cell 5 rfl
        have xsD5 := fun o : Obj => ((Box.new 23 W [.int .i64 a1, .bool a2, .bool a3, .int .i64 a4, .int .i64 a5, .int .i64 a6]).alloc o).cell 5 rfl
        go_enter Try.func8, Try.ntmps8
        obtain ⟨xs0, xsz0, xs1, xsz1, xs2, xsz2, xs3, xsz3, xs4, xsz4, xs5, xsz5⟩ := xs.f6
        obtain ⟨xt0, xtz0, xt1, xtz1, xt2, xtz2, xt3, xtz3, xt4, xtz4, xt5, xtz5⟩ := xt.f6
        go_wp2_with fail
        clear hw2 xsC0 xsD0 xsC1 xsD1 xsC2 xsD2 xsC3 xsD3 xsC4 xsD4 xsC5 xsD5
        refine (TL.out _).mono ?_
        rintro e V1 ⟨rfl, hk⟩
        clear xs0 xsz0 xs1 xsz1 xs2 xsz2 xs3 xsz3 xs4 xsz4 xs5 xsz5 xt0 xtz0 xt1 xtz1 xt2 xtz2 xt3 xtz3 xt4 xtz4 xt5 xtz5
        replace hB := below_seq hB hk
        replace xs := xs.seq hk
        replace xt := xt.seq hk
        clear hk
        obtain ⟨xs0, xsz0, xs1, xsz1, xs2, xsz2, xs3, xsz3, xs4, xsz4, xs5, xsz5⟩ := xs.f6
        obtain ⟨xt0, xtz0, xt1, xtz1, xt2, xtz2, xt3, xtz3, xt4, xtz4, xt5, xtz5⟩ := xt.f6
        go_wp2_with fail
        refine (TM.out _).mono ?_
        rintro e V2 ⟨rfl, hk⟩
        clear xs0 xsz0 xs1 xsz1 xs2 xsz2 xs3 xsz3 xs4 xsz4 xs5 xsz5 xt0 xtz0 xt1 xtz1 xt2 xtz2 xt3 xtz3 xt4 xtz4 xt5 xtz5
        replace hB := below_seq hB hk
        replace xs := xs.seq hk
        replace xt := xt.seq hk
        clear hk
        obtain ⟨xs0, xsz0, xs1, xsz1, xs2, xsz2, xs3, xsz3, xs4, xsz4, xs5, xsz5⟩ := xs.f6
        obtain ⟨xt0, xtz0, xt1, xtz1, xt2, xtz2, xt3, xtz3, xt4, xtz4, xt5, xtz5⟩ := xt.f6
        go_wp2_with fail
        refine (shown14 _).mono ?_
        rintro e V3 ⟨rfl, hk⟩
        clear xs0 xsz0 xs1 xsz1 xs2 xsz2 xs3 xsz3 xs4 xsz4 xs5 xsz5 xt0 xtz0 xt1 xtz1 xt2 xtz2 xt3 xtz3 xt4 xtz4 xt5 xtz5
        replace hB := below_seq hB hk
        replace xs := xs.seq hk
        replace xt := xt.seq hk
        clear hk
        obtain ⟨xs0, xsz0, xs1, xsz1, xs2, xsz2, xs3, xsz3, xs4, xsz4, xs5, xsz5⟩ := xs.f6
        obtain ⟨xt0, xtz0, xt1, xtz1, xt2, xtz2, xt3, xtz3, xt4, xtz4, xt5, xtz5⟩ := xt.f6
        go_wp2_with fail
        clear xs0 xsz0 xs1 xsz1 xs2 xsz2 xs3 xsz3 xs4 xsz4 xs5 xsz5 xt0 xtz0 xt1 xtz1 xt2 xtz2 xt3 xtz3 xt4 xtz4 xt5 xtz5
        replace hB := hB.drew
        replace xs := xs.drew
        replace xt := xt.drew
        refine wp_region_held_drew (S := fun w' => w'.cell? ⟨W.heap.size, 0, none⟩ = some (.int .i64 a1) ∧ w'.cell? ⟨W.heap.size, 1, none⟩ = some (.bool a2) ∧ w'.cell? ⟨W.heap.size, 2, none⟩ = some (.bool a3) ∧ w'.cell? ⟨W.heap.size, 3, none⟩ = some (.int .i64 a4) ∧ w'.cell? ⟨W.heap.size, 4, none⟩ = some (.int .i64 a5) ∧ w'.cell? ⟨W.heap.size, 5, none⟩ = some (.int .i64 a6) ∧ w'.cell? ⟨W.heap.size + 1, 0, none⟩ = some (.int .i64 a1) ∧ w'.cell? ⟨W.heap.size + 1, 1, none⟩ = some (.bool a2) ∧ w'.cell? ⟨W.heap.size + 1, 2, none⟩ = some (.bool a3) ∧ w'.cell? ⟨W.heap.size + 1, 3, none⟩ = some (.int .i64 a4) ∧ w'.cell? ⟨W.heap.size + 1, 4, none⟩ = some (.int .i64 a5) ∧ w'.cell? ⟨W.heap.size + 1, 5, none⟩ = some (.int .i64 n)) (by kernel_rfl) ?_ (fun hHeld => ?_)
        · exact ⟨xs.cell 0 rfl, xs.cell 1 rfl, xs.cell 2 rfl, xs.cell 3 rfl, xs.cell 4 rfl, xs.cell 5 rfl, xt.cell 0 rfl, xt.cell 1 rfl, xt.cell 2 rfl, xt.cell 3 rfl, xt.cell 4 rfl, xt.cell 5 rfl⟩
        generalize V3.drew = V4 at *
        refine tk 0 (v := ?_) rfl (Or.inl ⟨by rfl, ?_⟩) ?_; rotate_left
        · intro w hSw; (try dsimp only at hSw); go_simp; try with_reducible rfl
        try simp only [Act.put, l1, l2, l3, l4, l5, l6]
        refine tk 2 (v := ?_) rfl (Or.inl ⟨by rfl, ?_⟩) ?_; rotate_left
        · intro w hSw; (try dsimp only at hSw); go_simp; try with_reducible rfl
        try simp only [Act.put, l1, l2, l3, l4, l5, l6]
        refine tk 5 (v := ?_) rfl (Or.inl ⟨by rfl, ?_⟩) ?_; rotate_left
        · intro w hSw; (try dsimp only at hSw); go_simp; try with_reducible rfl
        try simp only [Act.put, l1, l2, l3, l4, l5, l6]
        refine tk 6 (v := ?_) rfl (Or.inl ⟨by rfl, ?_⟩) ?_; rotate_left
        · intro w hSw; (try dsimp only at hSw); go_simp; try with_reducible rfl
        try simp only [Act.put, l1, l2, l3, l4, l5, l6]
        refine tk 7 (v := ?_) rfl (Or.inl ⟨by rfl, ?_⟩) ?_; rotate_left
        · intro w hSw; (try dsimp only at hSw); go_simp; try with_reducible rfl
        try simp only [Act.put, l1, l2, l3, l4, l5, l6]
        refine wpAnyH_ready (rs := [1]) (by kernel_rfl) (by simp) ?_
        refine AllReadyH.cons rfl (fun K hK => ?_) AllReadyH.nil
        obtain ⟨xs0, xsz0, xs1, xsz1, xs2, xsz2, xs3, xsz3, xs4, xsz4, xs5, xsz5⟩ := xs.f6
        obtain ⟨xt0, xtz0, xt1, xtz1, xt2, xtz2, xt3, xtz3, xt4, xtz4, xt5, xtz5⟩ := xt.f6
        go_simp
        refine (TP.out _).mono ?_
        rintro e V5 ⟨rfl, hk⟩
        clear xs0 xsz0 xs1 xsz1 xs2 xsz2 xs3 xsz3 xs4 xsz4 xs5 xsz5 xt0 xtz0 xt1 xtz1 xt2 xtz2 xt3 xtz3 xt4 xtz4 xt5 xtz5
        replace hB := below_seq hB hk
        replace xs := xs.seq hk
        replace xt := xt.seq hk
        clear hk
        obtain ⟨xs0, xsz0, xs1, xsz1, xs2, xsz2, xs3, xsz3, xs4, xsz4, xs5, xsz5⟩ := xs.f6
        obtain ⟨xt0, xtz0, xt1, xtz1, xt2, xtz2, xt3, xtz3, xt4, xtz4, xt5, xtz5⟩ := xt.f6
        try go_wp2_with fail
        clear xs0 xsz0 xs1 xsz1 xs2 xsz2 xs3 xsz3 xs4 xsz4 xs5 xsz5 xt0 xtz0 xt1 xtz1 xt2 xtz2 xt3 xtz3 xt4 xtz4 xt5 xtz5
        clear hHeld
        refine hK.out _ _ ?_ (fun hHeld => ?_)
        · exact ⟨xs.cell 0 rfl, xs.cell 1 rfl, xs.cell 2 rfl, xs.cell 3 rfl, xs.cell 4 rfl, xs.cell 5 rfl, xt.cell 0 rfl, xt.cell 1 rfl, xt.cell 2 rfl, xt.cell 3 rfl, xt.cell 4 rfl, xt.cell 5 rfl⟩
        clear hK K
        try simp only [Act.put, l1, l2, l3, l4, l5, l6]
        refine wpAnyH_ready (rs := [3]) (by kernel_rfl) (by simp) ?_
        refine AllReadyH.cons rfl (fun K hK => ?_) AllReadyH.nil
        obtain ⟨xs0, xsz0, xs1, xsz1, xs2, xsz2, xs3, xsz3, xs4, xsz4, xs5, xsz5⟩ := xs.f6
        obtain ⟨xt0, xtz0, xt1, xtz1, xt2, xtz2, xt3, xtz3, xt4, xtz4, xt5, xtz5⟩ := xt.f6
        go_simp
        refine (TQ.out _).mono ?_
        rintro e V6 ⟨rfl, hk⟩
        clear xs0 xsz0 xs1 xsz1 xs2 xsz2 xs3 xsz3 xs4 xsz4 xs5 xsz5 xt0 xtz0 xt1 xtz1 xt2 xtz2 xt3 xtz3 xt4 xtz4 xt5 xtz5
        replace hB := below_seq hB hk
        replace xs := xs.seq hk
        replace xt := xt.seq hk
        clear hk
        obtain ⟨xs0, xsz0, xs1, xsz1, xs2, xsz2, xs3, xsz3, xs4, xsz4, xs5, xsz5⟩ := xs.f6
        obtain ⟨xt0, xtz0, xt1, xtz1, xt2, xtz2, xt3, xtz3, xt4, xtz4, xt5, xtz5⟩ := xt.f6
        try go_wp2_with fail
        clear xs0 xsz0 xs1 xsz1 xs2 xsz2 xs3 xsz3 xs4 xsz4 xs5 xsz5 xt0 xtz0 xt1 xtz1 xt2 xtz2 xt3 xtz3 xt4 xtz4 xt5 xtz5
        clear hHeld
        refine hK.out _ _ ?_ (fun hHeld => ?_)
        · exact ⟨xs.cell 0 rfl, xs.cell 1 rfl, xs.cell 2 rfl, xs.cell 3 rfl, xs.cell 4 rfl, xs.cell 5 rfl, xt.cell 0 rfl, xt.cell 1 rfl, xt.cell 2 rfl, xt.cell 3 rfl, xt.cell 4 rfl, xt.cell 5 rfl⟩
        clear hK K
        try simp only [Act.put, l1, l2, l3, l4, l5, l6]
        refine tk 4 (v := ?_) rfl (Or.inl ⟨by rfl, ?_⟩) ?_; rotate_left
        · intro w hSw; (try dsimp only at hSw); go_simp; try with_reducible rfl
        try simp only [Act.put, l1, l2, l3, l4, l5, l6]
        refine tk 8 (v := ?_) rfl (Or.inl ⟨by rfl, ?_⟩) ?_; rotate_left
        · intro w hSw; (try dsimp only at hSw); go_simp; try with_reducible rfl
        try simp only [Act.put, l1, l2, l3, l4, l5, l6]
        refine tk 9 (v := ?_) rfl (Or.inl ⟨by rfl, ?_⟩) ?_; rotate_left
        · intro w hSw; (try dsimp only at hSw); go_simp; try with_reducible rfl
        try simp only [Act.put, l1, l2, l3, l4, l5, l6]
        refine wpAnyH_done (by kernel_rfl) ?_ _
        clear hHeld
        obtain ⟨xs0, xsz0, xs1, xsz1, xs2, xsz2, xs3, xsz3, xs4, xsz4, xs5, xsz5⟩ := xs.f6
        obtain ⟨xt0, xtz0, xt1, xtz1, xt2, xtz2, xt3, xtz3, xt4, xtz4, xt5, xtz5⟩ := xt.f6
        go_wp2
        go_ret
        exact ⟨rfl, hB⟩


set_option maxRecDepth 100000 in
set_option maxHeartbeats 8000000 in
theorem walk (s : St) (which : UInt8) (n : Int) (W : World) (hs : s.ok) (hn : -9223372036854775808 ≤ n ∧ n ≤ 9223372036854775807) :
    Calls Try.prog 8 #[.agg #[.int .i64 s.mode, .bool s.armed, .bool s.home, .int .i64 s.lat, .int .i64 s.lon, .int .i64 s.iso], .int .u8 (which.toNat : Int), .int .i64 n] W fun e W' => e = .returned (.bool true) ∧ Below W.heap.size W W' := by
  have hlt := Nat.mod_lt which.toNat (show 6 > 0 by decide)
  obtain ⟨n1, n2, n3, n4⟩ := hs
  by_cases h0 : which.toNat % 6 = 0
  · exact field0 s.mode s.armed s.home s.lat s.lon s.iso n which (legalB s) (legalB ⟨n, s.armed, s.home, s.lat, s.lon, s.iso⟩) (packN s) (packN ⟨n, s.armed, s.home, s.lat, s.lon, s.iso⟩) W h0 (fun V => own14Legal s V ⟨n1, n2, n3, n4⟩) (fun V => own14Legal ⟨n, s.armed, s.home, s.lat, s.lon, s.iso⟩ V ⟨hn, n2, n3, n4⟩) (fun V => own14Pack s V ⟨n1, n2, n3, n4⟩) (fun V => own14Pack ⟨n, s.armed, s.home, s.lat, s.lon, s.iso⟩ V ⟨hn, n2, n3, n4⟩) (fun k1 k2 => ⟨fun h => by have := congrArg St.mode (pack_inj ((legal_iff _).1 k1) ((legal_iff _).1 k2) h); exact this.symm, fun h => by subst h; rfl⟩)
  · skip
    by_cases h1 : which.toNat % 6 = 1
    · exact field1 s.mode s.armed s.home s.lat s.lon s.iso n which (legalB s) (legalB ⟨s.mode, !s.armed, s.home, s.lat, s.lon, s.iso⟩) (packN s) (packN ⟨s.mode, !s.armed, s.home, s.lat, s.lon, s.iso⟩) W h1 (fun V => own14Legal s V ⟨n1, n2, n3, n4⟩) (fun V => own14Legal ⟨s.mode, !s.armed, s.home, s.lat, s.lon, s.iso⟩ V ⟨n1, n2, n3, n4⟩) (fun V => own14Pack s V ⟨n1, n2, n3, n4⟩) (fun V => own14Pack ⟨s.mode, !s.armed, s.home, s.lat, s.lon, s.iso⟩ V ⟨n1, n2, n3, n4⟩) (fun k1 k2 h => by have := congrArg St.armed (pack_inj ((legal_iff _).1 k1) ((legal_iff _).1 k2) h); simp only at this; cases hb : s.armed <;> rw [hb] at this <;> cases this)
    · skip
      by_cases h2 : which.toNat % 6 = 2
      · exact field2 s.mode s.armed s.home s.lat s.lon s.iso n which (legalB s) (legalB ⟨s.mode, s.armed, !s.home, s.lat, s.lon, s.iso⟩) (packN s) (packN ⟨s.mode, s.armed, !s.home, s.lat, s.lon, s.iso⟩) W h2 (fun V => own14Legal s V ⟨n1, n2, n3, n4⟩) (fun V => own14Legal ⟨s.mode, s.armed, !s.home, s.lat, s.lon, s.iso⟩ V ⟨n1, n2, n3, n4⟩) (fun V => own14Pack s V ⟨n1, n2, n3, n4⟩) (fun V => own14Pack ⟨s.mode, s.armed, !s.home, s.lat, s.lon, s.iso⟩ V ⟨n1, n2, n3, n4⟩) (fun k1 k2 h => by have := congrArg St.home (pack_inj ((legal_iff _).1 k1) ((legal_iff _).1 k2) h); simp only at this; cases hb : s.home <;> rw [hb] at this <;> cases this)
      · skip
        by_cases h3 : which.toNat % 6 = 3
        · exact field3 s.mode s.armed s.home s.lat s.lon s.iso n which (legalB s) (legalB ⟨s.mode, s.armed, s.home, n, s.lon, s.iso⟩) (packN s) (packN ⟨s.mode, s.armed, s.home, n, s.lon, s.iso⟩) W h3 (fun V => own14Legal s V ⟨n1, n2, n3, n4⟩) (fun V => own14Legal ⟨s.mode, s.armed, s.home, n, s.lon, s.iso⟩ V ⟨n1, hn, n3, n4⟩) (fun V => own14Pack s V ⟨n1, n2, n3, n4⟩) (fun V => own14Pack ⟨s.mode, s.armed, s.home, n, s.lon, s.iso⟩ V ⟨n1, hn, n3, n4⟩) (fun k1 k2 => ⟨fun h => by have := congrArg St.lat (pack_inj ((legal_iff _).1 k1) ((legal_iff _).1 k2) h); exact this.symm, fun h => by subst h; rfl⟩)
        · skip
          by_cases h4 : which.toNat % 6 = 4
          · exact field4 s.mode s.armed s.home s.lat s.lon s.iso n which (legalB s) (legalB ⟨s.mode, s.armed, s.home, s.lat, n, s.iso⟩) (packN s) (packN ⟨s.mode, s.armed, s.home, s.lat, n, s.iso⟩) W h4 (fun V => own14Legal s V ⟨n1, n2, n3, n4⟩) (fun V => own14Legal ⟨s.mode, s.armed, s.home, s.lat, n, s.iso⟩ V ⟨n1, n2, hn, n4⟩) (fun V => own14Pack s V ⟨n1, n2, n3, n4⟩) (fun V => own14Pack ⟨s.mode, s.armed, s.home, s.lat, n, s.iso⟩ V ⟨n1, n2, hn, n4⟩) (fun k1 k2 => ⟨fun h => by have := congrArg St.lon (pack_inj ((legal_iff _).1 k1) ((legal_iff _).1 k2) h); exact this.symm, fun h => by subst h; rfl⟩)
          · skip
            exact field5 s.mode s.armed s.home s.lat s.lon s.iso n which (legalB s) (legalB ⟨s.mode, s.armed, s.home, s.lat, s.lon, n⟩) (packN s) (packN ⟨s.mode, s.armed, s.home, s.lat, s.lon, n⟩) W (by omega) (fun V => own14Legal s V ⟨n1, n2, n3, n4⟩) (fun V => own14Legal ⟨s.mode, s.armed, s.home, s.lat, s.lon, n⟩ V ⟨n1, n2, n3, hn⟩) (fun V => own14Pack s V ⟨n1, n2, n3, n4⟩) (fun V => own14Pack ⟨s.mode, s.armed, s.home, s.lat, s.lon, n⟩ V ⟨n1, n2, n3, hn⟩) (fun k1 k2 => ⟨fun h => by have := congrArg St.iso (pack_inj ((legal_iff _).1 k1) ((legal_iff _).1 k2) h); exact this.symm, fun h => by subst h; rfl⟩)

theorem own : ownKnob Try.prog.godebug = none := by kernel_rfl

set_option maxRecDepth 100000 in
theorem lifted (os : Os) (started : os.Started) (H : Type) (enc : TypeId × Value → H) :
    ReturnsInHanded {} Try.checked os 8 .any (Rows.stateFieldsSpec.pre6 enc Try.prog Try.f8 Rows.stateFieldsRow.domain false) (Rows.stateFieldsSpec.post enc Try.prog Try.f8 false true false false) := by
  refine returnsInHanded_of_change (C := Try.checked) own started (by kernel_rfl) Try.func8
    (ChangeSpec.witness6 (enc := enc) (C := Try.checked) false ⟨#[], #[.agg #[.int .i64 0, .bool false, .bool false, .int .i64 0, .int .i64 0, .int .i64 0], .int .u8 0, .int .i64 0], []⟩ 8 (by kernel_rfl) (by kernel_rfl) (by kernel_rfl) (by kernel_rfl)) ?_
  intro W base args ds gs before hval hW _ _
  have hW' := hW
  obtain ⟨p, q, hA0, hV, rfl, hfz, hnd⟩ := hW
  have hA : DataW.TrodAll enc Try.prog W 0 (fun _ => true) true Try.f8.params.toList args.toList ds p := hA0
  rw [Try.params8] at hA hval
  obtain ⟨v0, vs0, d0, ds0, p0, q0, hargs, rfl, rfl, h0, r0⟩ := trodAll_cons hA
  obtain ⟨v1, vs1, d1, ds1, p1, q1, rfl, rfl, rfl, h1, r1⟩ := trodAll_cons r0
  obtain ⟨v2, vs2, d2, ds2, p2, q2, rfl, rfl, rfl, h2, r2⟩ := trodAll_cons r1
  obtain ⟨rfl, rfl, rfl⟩ := trodAll_nil r2
  obtain rfl : args = #[v0, v1, v2] := by cases args; simp_all
  obtain ⟨rfl, rfl⟩ := trodVars_none hV
  have k0 := h0
  obtain ⟨s0, rfl, hs0⟩ := open_st (hval 0 23 v0 rfl rfl) h0
  obtain ⟨a1, rfl, rfl, rfl, w1⟩ := open_int Try.underlying5 (hval 1 5 v1 rfl rfl) h1
  obtain ⟨c1, rfl⟩ := int_u8 w1
  obtain ⟨a2, rfl, rfl, rfl, w2⟩ := open_int Try.underlying3 (hval 2 3 v2 rfl rfl) h2
  clear hA0
  simp only [List.append_nil] at hW'
  refine (walk s0 c1 a2 W hs0 (int_i64 w2)).mono fun e W' ⟨he, hB⟩ => ?_
  subst he
  exact ⟨_, rfl, ⟨_, _, _, [], _, [], hW', trodAll_cons_mk (shut_bool Try.underlying4 _) trodAll_mk0, (trodAll_cons_mk (Below.trod Try.laidOut (by kernel_rfl) (of_decide_eq_true (by kernel_rfl)) k0 hB (fun x hx => by simpa using hW'.lt x (by simp [hx]))) (trodAll_cons_mk (shut_int Try.underlying5 w1) (trodAll_cons_mk (shut_int Try.underlying3 w2) trodAll_mk0))), rfl, hB.frame _, fun h => by cases h⟩⟩

theorem holds : Rows.StateFieldsSaid :=
  OpenClaim.holds_of_wide 8 Try.f8 rfl rfl rfl rfl rfl rfl rfl ⟨rfl, rfl, rfl, rfl, rfl⟩ rfl rfl rfl rfl rfl (by kernel_rfl) Try.func8 (by kernel_rfl)
    (of_decide_eq_true (by kernel_rfl)) (by unfold Func.isWrapper; first | (rw [if_pos (by decide +kernel)]; kernel_rfl) | (rw [if_neg (by decide +kernel)]; exact ⟨rfl, rfl⟩))
    (fun os started H enc _ => lifted os started H enc)
end Go.Proofs.Ytkdadjojahfmeaa.StateFields

/- A home is set in any mode, whatever stands, if the numbers are in their ranges; nothing else changes (CommandHome); no condition. -/
import Derived.Test.YtdfacpppmfoiiaaCmdLaw
import Derived.Test.YtdfacpppmfoiiaaCmdGo
import Derived.Deep.RegionHeld3
import Derived.WalkLawsBesides
import Derived.WalkSpells
import Derived.IntWalk
import Derived.Lib.Hide
import Derived.Test.YtdfacpppmfoiiaaBox
import Derived.Test.YtdfacpppmfoiiaaCmDeg
import Derived.Test.YtdfacpppmfoiiaaFixedLaw
import Derived.ProofKit
import Derived.OpenShut
import Derived.ChangeMaps5
import Derived.Test.YtdfacpppmfoiiaaInts
namespace Go.Proofs.Ytdfacpppmfoiiaa.CommandHome
open Go.ChangeShapes Go.WideShapes Go.ChangeAt Go.RowKit Go.ChangeMaps
set_option linter.unusedVariables false
set_option linter.unusedSimpArgs false

set_option maxRecDepth 100000 in
set_option maxHeartbeats 8000000 in
theorem walk (s : St) (lat : Nat) (lon : Nat) (W : World) (hs : s.ok) (hlat : lat < 2 ^ 64) (hlon : lon < 2 ^ 64) :
    Calls Try.prog 8 #[.agg #[.int .i64 s.mode, .bool s.armed, .bool s.home, .int .i64 s.lat, .int .i64 s.lon, .int .i64 s.iso], .float .f64 lat, .float .f64 lon] W fun e W' => e = .returned (.bool true) ∧ Below W.heap.size W W' := by
  have TI := Lib.hid (fun (V : World) => law16Its s V)
  by_cases hl : Legal s
  · skip
    have TL := Lib.hid (fun (V : World) => (show Calls Try.prog 10 #[.agg #[.int .i64 s.mode, .bool s.armed, .bool s.home, .int .i64 s.lat, .int .i64 s.lon, .int .i64 s.iso]] V fun e W' => e = .returned (.bool true) ∧ Below V.heap.size V W' from by have h := ref14Legal s V; rwa [(legal_iff s).2 hl] at h))
    obtain ⟨e1, e2⟩ := delta_home (s := s) (c := ⟨4, 0, lat, lon⟩) rfl
    obtain ⟨⟨c1, d1⟩, ⟨c2, d2⟩, ⟨c3, d3⟩, ⟨c4, d4⟩⟩ := bounds16
    have TD := Lib.hid (fun (V : World) => (show Calls Try.prog 13 #[.agg #[.int .i64 s.mode, .bool s.armed, .bool s.home, .int .i64 s.lat, .int .i64 s.lon, .int .i64 s.iso], .agg #[.int .i64 4, .int .i64 0, .float .f64 lat, .float .f64 lon]] V fun e W' => e = .returned (.tuple #[.agg #[.int .i64 (homeS s ⟨4, 0, lat, lon⟩).mode, .bool (homeS s ⟨4, 0, lat, lon⟩).armed, .bool (homeS s ⟨4, 0, lat, lon⟩).home, .int .i64 (homeS s ⟨4, 0, lat, lon⟩).lat, .int .i64 (homeS s ⟨4, 0, lat, lon⟩).lon, .int .i64 (homeS s ⟨4, 0, lat, lon⟩).iso], .int .i64 (homeE ⟨4, 0, lat, lon⟩)]) ∧ Below V.heap.size V W' from by have h := own16Delta s ⟨4, 0, lat, lon⟩ V hl ⟨⟨by show (-9223372036854775808 : Int) ≤ 4; decide, by show (4 : Int) ≤ 9223372036854775807; decide⟩, ⟨by show (-9223372036854775808 : Int) ≤ 0; decide, by show (0 : Int) ≤ 9223372036854775807; decide⟩, hlat, hlon⟩; rw [e1, e2] at h; exact h))
    have g1 := ge_at (x := lat) c1 d1
    have g2 := le_at (x := lat) c2 d2
    have g3 := ge_at (x := lon) c3 d3
    have g4 := le_at (x := lon) c4 d4
    have HZ : homeE ⟨4, 0, lat, lon⟩ = 0 ↔ ((isNum lat ∧ -(90 * (U : Int)) ≤ fv lat) ∧ (isNum lat ∧ fv lat ≤ 90 * (U : Int))) ∧ ((isNum lon ∧ -(180 * (U : Int)) ≤ fv lon) ∧ (isNum lon ∧ fv lon ≤ 180 * (U : Int))) := by
      rw [homeE_zero, fixE_iff (by decide) (by decide), fixE_iff (by decide) (by decide)]
    have HS : homeS s ⟨4, 0, lat, lon⟩ = if homeE ⟨4, 0, lat, lon⟩ = 0 then setHome s (fixN lat 90) (fixN lon 180) else s := rfl
    clear e1 e2 c1 d1 c2 d2 c3 d3 c4 d4 hl hs
    obtain ⟨a0, ha0⟩ : ∃ b, (FloatKind.f64.format.order lat 13859405640767635456 == some .gt) = b := ⟨_, rfl⟩
    obtain ⟨b0, hb0⟩ : ∃ b, (FloatKind.f64.format.order lat 13859405640767635456 == some .eq) = b := ⟨_, rfl⟩
    rw [ha0, hb0] at g1
    obtain ⟨a1, ha1⟩ : ∃ b, (FloatKind.f64.format.order lat 4636033603912859648 == some .lt) = b := ⟨_, rfl⟩
    obtain ⟨b1, hb1⟩ : ∃ b, (FloatKind.f64.format.order lat 4636033603912859648 == some .eq) = b := ⟨_, rfl⟩
    rw [ha1, hb1] at g2
    obtain ⟨a2, ha2⟩ : ∃ b, (FloatKind.f64.format.order lon 13863909240395005952 == some .gt) = b := ⟨_, rfl⟩
    obtain ⟨b2, hb2⟩ : ∃ b, (FloatKind.f64.format.order lon 13863909240395005952 == some .eq) = b := ⟨_, rfl⟩
    rw [ha2, hb2] at g3
    obtain ⟨a3, ha3⟩ : ∃ b, (FloatKind.f64.format.order lon 4640537203540230144 == some .lt) = b := ⟨_, rfl⟩
    obtain ⟨b3, hb3⟩ : ∃ b, (FloatKind.f64.format.order lon 4640537203540230144 == some .eq) = b := ⟨_, rfl⟩
    rw [ha3, hb3] at g4
    by_cases p0 : isNum lat ∧ -(90 * (U : Int)) ≤ fv lat
    · rw [decide_eq_true p0] at g1
      by_cases p1 : isNum lat ∧ fv lat ≤ 90 * (U : Int)
      · rw [decide_eq_true p1] at g2
        by_cases p2 : isNum lon ∧ -(180 * (U : Int)) ≤ fv lon
        · rw [decide_eq_true p2] at g3
          by_cases p3 : isNum lon ∧ fv lon ≤ 180 * (U : Int)
          · rw [decide_eq_true p3] at g4
            have hz := HZ.2 ⟨⟨p0, p1⟩, ⟨p2, p3⟩⟩
            rw [hz] at TD HS
            rw [if_pos rfl] at HS
            rw [HS] at TD
            dsimp only [setHome] at TD
            generalize fixN lat 90 = fa at *
            generalize fixN lon 180 = fo at *
            clear hz p0 p1 p2 p3
            clear HZ HS
            have hB : Below W.heap.size W (W.alloc (.cells #[.int .i64 s.mode, .bool s.armed, .bool s.home, .int .i64 s.lat, .int .i64 s.lon, .int .i64 s.iso] 23)) := ((Below.refl _ _).alloc (Nat.le_refl _) _)
            have xs := (Box.new 23 W [.int .i64 s.mode, .bool s.armed, .bool s.home, .int .i64 s.lat, .int .i64 s.lon, .int .i64 s.iso])
            go_enter Try.func8, Try.ntmps8
            obtain ⟨xs0, xsz0, xs1, xsz1, xs2, xsz2, xs3, xsz3, xs4, xsz4, xs5, xsz5⟩ := xs.f6
            go_wp2_with fail
            refine (TI.out _).mono ?_
            rintro e V1 ⟨rfl, hk⟩
            clear xs0 xsz0 xs1 xsz1 xs2 xsz2 xs3 xsz3 xs4 xsz4 xs5 xsz5
            replace hB := below_seq hB hk
            replace xs := xs.seq hk
            clear hk
            obtain ⟨xs0, xsz0, xs1, xsz1, xs2, xsz2, xs3, xsz3, xs4, xsz4, xs5, xsz5⟩ := xs.f6
            go_wp2_with fail
            refine (TL.out _).mono ?_
            rintro e V2 ⟨rfl, hk⟩
            clear xs0 xsz0 xs1 xsz1 xs2 xsz2 xs3 xsz3 xs4 xsz4 xs5 xsz5
            replace hB := below_seq hB hk
            replace xs := xs.seq hk
            clear hk
            obtain ⟨xs0, xsz0, xs1, xsz1, xs2, xsz2, xs3, xsz3, xs4, xsz4, xs5, xsz5⟩ := xs.f6
            go_wp2_with fail
            refine (shown16 _).mono ?_
            rintro e V3 ⟨rfl, hk⟩
            clear xs0 xsz0 xs1 xsz1 xs2 xsz2 xs3 xsz3 xs4 xsz4 xs5 xsz5
            replace hB := below_seq hB hk
            replace xs := xs.seq hk
            clear hk
            obtain ⟨xs0, xsz0, xs1, xsz1, xs2, xsz2, xs3, xsz3, xs4, xsz4, xs5, xsz5⟩ := xs.f6
            go_wp2_with fail
            refine (TD.out _).mono ?_
            rintro e V4 ⟨rfl, hk⟩
            clear xs0 xsz0 xs1 xsz1 xs2 xsz2 xs3 xsz3 xs4 xsz4 xs5 xsz5
            replace hB := below_seq hB hk
            replace xs := xs.seq hk
            clear hk
            have ys0 : ∀ o : Obj, _ := fun o => (xs.alloc o).cell 0 rfl
            have ys1 : ∀ o : Obj, _ := fun o => (xs.alloc o).cell 1 rfl
            have ys2 : ∀ o : Obj, _ := fun o => (xs.alloc o).cell 2 rfl
            have ys3 : ∀ o : Obj, _ := fun o => (xs.alloc o).cell 3 rfl
            have ys4 : ∀ o : Obj, _ := fun o => (xs.alloc o).cell 4 rfl
            have ys5 : ∀ o : Obj, _ := fun o => (xs.alloc o).cell 5 rfl
            have xt := Box.new 23 V4 [.int .i64 s.mode, .bool s.armed, .bool s.home, .int .i64 s.lat, .int .i64 s.lon, .int .i64 s.iso]
            have ne_xt_xs : V4.heap.size ≠ W.heap.size := Nat.ne_of_gt xs.lt
            have le_xt : W.heap.size ≤ V4.heap.size := hB.size
            replace xs := xs.alloc (.cells #[.int .i64 s.mode, .bool s.armed, .bool s.home, .int .i64 s.lat, .int .i64 s.lon, .int .i64 s.iso] 23)
            replace hB := hB.alloc hB.size (.cells #[.int .i64 s.mode, .bool s.armed, .bool s.home, .int .i64 s.lat, .int .i64 s.lon, .int .i64 s.iso] 23)
            obtain ⟨xs0, xsz0, xs1, xsz1, xs2, xsz2, xs3, xsz3, xs4, xsz4, xs5, xsz5⟩ := xs.f6
            obtain ⟨xt0, xtz0, xt1, xtz1, xt2, xtz2, xt3, xtz3, xt4, xtz4, xt5, xtz5⟩ := xt.f6
            go_wp2
            clear xs0 xsz0 xs1 xsz1 xs2 xsz2 xs3 xsz3 xs4 xsz4 xs5 xsz5 xt0 xtz0 xt1 xtz1 xt2 xtz2 xt3 xtz3 xt4 xtz4 xt5 xtz5
            go_ret
            exact ⟨rfl, hB⟩
          · rw [decide_eq_false p3] at g4
            have hz : homeE ⟨4, 0, lat, lon⟩ ≠ 0 := fun k => p3 (by have h := HZ.1 k; exact h.2.2)
            rw [if_neg hz] at HS
            rw [HS] at TD
            have n1 : (homeE ⟨4, 0, lat, lon⟩ == 0) = false := beq_eq_false_iff_ne.2 hz
            clear hz p0 p1 p2 p3 
            clear HZ HS
            generalize homeE ⟨4, 0, lat, lon⟩ = E at *
            have hB : Below W.heap.size W (W.alloc (.cells #[.int .i64 s.mode, .bool s.armed, .bool s.home, .int .i64 s.lat, .int .i64 s.lon, .int .i64 s.iso] 23)) := ((Below.refl _ _).alloc (Nat.le_refl _) _)
            have xs := (Box.new 23 W [.int .i64 s.mode, .bool s.armed, .bool s.home, .int .i64 s.lat, .int .i64 s.lon, .int .i64 s.iso])
            go_enter Try.func8, Try.ntmps8
            obtain ⟨xs0, xsz0, xs1, xsz1, xs2, xsz2, xs3, xsz3, xs4, xsz4, xs5, xsz5⟩ := xs.f6
            go_wp2_with fail
            refine (TI.out _).mono ?_
            rintro e V1 ⟨rfl, hk⟩
            clear xs0 xsz0 xs1 xsz1 xs2 xsz2 xs3 xsz3 xs4 xsz4 xs5 xsz5
            replace hB := below_seq hB hk
            replace xs := xs.seq hk
            clear hk
            obtain ⟨xs0, xsz0, xs1, xsz1, xs2, xsz2, xs3, xsz3, xs4, xsz4, xs5, xsz5⟩ := xs.f6
            go_wp2_with fail
            refine (TL.out _).mono ?_
            rintro e V2 ⟨rfl, hk⟩
            clear xs0 xsz0 xs1 xsz1 xs2 xsz2 xs3 xsz3 xs4 xsz4 xs5 xsz5
            replace hB := below_seq hB hk
            replace xs := xs.seq hk
            clear hk
            obtain ⟨xs0, xsz0, xs1, xsz1, xs2, xsz2, xs3, xsz3, xs4, xsz4, xs5, xsz5⟩ := xs.f6
            go_wp2_with fail
            refine (shown16 _).mono ?_
            rintro e V3 ⟨rfl, hk⟩
            clear xs0 xsz0 xs1 xsz1 xs2 xsz2 xs3 xsz3 xs4 xsz4 xs5 xsz5
            replace hB := below_seq hB hk
            replace xs := xs.seq hk
            clear hk
            obtain ⟨xs0, xsz0, xs1, xsz1, xs2, xsz2, xs3, xsz3, xs4, xsz4, xs5, xsz5⟩ := xs.f6
            go_wp2_with fail
            refine (TD.out _).mono ?_
            rintro e V4 ⟨rfl, hk⟩
            clear xs0 xsz0 xs1 xsz1 xs2 xsz2 xs3 xsz3 xs4 xsz4 xs5 xsz5
            replace hB := below_seq hB hk
            replace xs := xs.seq hk
            clear hk
            have ys0 : ∀ o : Obj, _ := fun o => (xs.alloc o).cell 0 rfl
            have ys1 : ∀ o : Obj, _ := fun o => (xs.alloc o).cell 1 rfl
            have ys2 : ∀ o : Obj, _ := fun o => (xs.alloc o).cell 2 rfl
            have ys3 : ∀ o : Obj, _ := fun o => (xs.alloc o).cell 3 rfl
            have ys4 : ∀ o : Obj, _ := fun o => (xs.alloc o).cell 4 rfl
            have ys5 : ∀ o : Obj, _ := fun o => (xs.alloc o).cell 5 rfl
            have xt := Box.new 23 V4 [.int .i64 s.mode, .bool s.armed, .bool s.home, .int .i64 s.lat, .int .i64 s.lon, .int .i64 s.iso]
            have ne_xt_xs : V4.heap.size ≠ W.heap.size := Nat.ne_of_gt xs.lt
            have le_xt : W.heap.size ≤ V4.heap.size := hB.size
            replace xs := xs.alloc (.cells #[.int .i64 s.mode, .bool s.armed, .bool s.home, .int .i64 s.lat, .int .i64 s.lon, .int .i64 s.iso] 23)
            replace hB := hB.alloc hB.size (.cells #[.int .i64 s.mode, .bool s.armed, .bool s.home, .int .i64 s.lat, .int .i64 s.lon, .int .i64 s.iso] 23)
            obtain ⟨xs0, xsz0, xs1, xsz1, xs2, xsz2, xs3, xsz3, xs4, xsz4, xs5, xsz5⟩ := xs.f6
            obtain ⟨xt0, xtz0, xt1, xtz1, xt2, xtz2, xt3, xtz3, xt4, xtz4, xt5, xtz5⟩ := xt.f6
            go_wp2
            clear xs0 xsz0 xs1 xsz1 xs2 xsz2 xs3 xsz3 xs4 xsz4 xs5 xsz5 xt0 xtz0 xt1 xtz1 xt2 xtz2 xt3 xtz3 xt4 xtz4 xt5 xtz5
            go_ret
            exact ⟨rfl, hB⟩
        · rw [decide_eq_false p2] at g3
          have hz : homeE ⟨4, 0, lat, lon⟩ ≠ 0 := fun k => p2 (by have h := HZ.1 k; exact h.2.1)
          rw [if_neg hz] at HS
          rw [HS] at TD
          have n1 : (homeE ⟨4, 0, lat, lon⟩ == 0) = false := beq_eq_false_iff_ne.2 hz
          clear hz p0 p1 p2 g4
          clear HZ HS
          generalize homeE ⟨4, 0, lat, lon⟩ = E at *
          have hB : Below W.heap.size W (W.alloc (.cells #[.int .i64 s.mode, .bool s.armed, .bool s.home, .int .i64 s.lat, .int .i64 s.lon, .int .i64 s.iso] 23)) := ((Below.refl _ _).alloc (Nat.le_refl _) _)
          have xs := (Box.new 23 W [.int .i64 s.mode, .bool s.armed, .bool s.home, .int .i64 s.lat, .int .i64 s.lon, .int .i64 s.iso])
          go_enter Try.func8, Try.ntmps8
          obtain ⟨xs0, xsz0, xs1, xsz1, xs2, xsz2, xs3, xsz3, xs4, xsz4, xs5, xsz5⟩ := xs.f6
          go_wp2_with fail
          refine (TI.out _).mono ?_
          rintro e V1 ⟨rfl, hk⟩
          clear xs0 xsz0 xs1 xsz1 xs2 xsz2 xs3 xsz3 xs4 xsz4 xs5 xsz5
          replace hB := below_seq hB hk
          replace xs := xs.seq hk
          clear hk
          obtain ⟨xs0, xsz0, xs1, xsz1, xs2, xsz2, xs3, xsz3, xs4, xsz4, xs5, xsz5⟩ := xs.f6
          go_wp2_with fail
          refine (TL.out _).mono ?_
          rintro e V2 ⟨rfl, hk⟩
          clear xs0 xsz0 xs1 xsz1 xs2 xsz2 xs3 xsz3 xs4 xsz4 xs5 xsz5
          replace hB := below_seq hB hk
          replace xs := xs.seq hk
          clear hk
          obtain ⟨xs0, xsz0, xs1, xsz1, xs2, xsz2, xs3, xsz3, xs4, xsz4, xs5, xsz5⟩ := xs.f6
          go_wp2_with fail
          refine (shown16 _).mono ?_
          rintro e V3 ⟨rfl, hk⟩
          clear xs0 xsz0 xs1 xsz1 xs2 xsz2 xs3 xsz3 xs4 xsz4 xs5 xsz5
          replace hB := below_seq hB hk
          replace xs := xs.seq hk
          clear hk
          obtain ⟨xs0, xsz0, xs1, xsz1, xs2, xsz2, xs3, xsz3, xs4, xsz4, xs5, xsz5⟩ := xs.f6
          go_wp2_with fail
          refine (TD.out _).mono ?_
          rintro e V4 ⟨rfl, hk⟩
          clear xs0 xsz0 xs1 xsz1 xs2 xsz2 xs3 xsz3 xs4 xsz4 xs5 xsz5
          replace hB := below_seq hB hk
          replace xs := xs.seq hk
          clear hk
          have ys0 : ∀ o : Obj, _ := fun o => (xs.alloc o).cell 0 rfl
          have ys1 : ∀ o : Obj, _ := fun o => (xs.alloc o).cell 1 rfl
          have ys2 : ∀ o : Obj, _ := fun o => (xs.alloc o).cell 2 rfl
          have ys3 : ∀ o : Obj, _ := fun o => (xs.alloc o).cell 3 rfl
          have ys4 : ∀ o : Obj, _ := fun o => (xs.alloc o).cell 4 rfl
          have ys5 : ∀ o : Obj, _ := fun o => (xs.alloc o).cell 5 rfl
          have xt := Box.new 23 V4 [.int .i64 s.mode, .bool s.armed, .bool s.home, .int .i64 s.lat, .int .i64 s.lon, .int .i64 s.iso]
          have ne_xt_xs : V4.heap.size ≠ W.heap.size := Nat.ne_of_gt xs.lt
          have le_xt : W.heap.size ≤ V4.heap.size := hB.size
          replace xs := xs.alloc (.cells #[.int .i64 s.mode, .bool s.armed, .bool s.home, .int .i64 s.lat, .int .i64 s.lon, .int .i64 s.iso] 23)
          replace hB := hB.alloc hB.size (.cells #[.int .i64 s.mode, .bool s.armed, .bool s.home, .int .i64 s.lat, .int .i64 s.lon, .int .i64 s.iso] 23)
          obtain ⟨xs0, xsz0, xs1, xsz1, xs2, xsz2, xs3, xsz3, xs4, xsz4, xs5, xsz5⟩ := xs.f6
          obtain ⟨xt0, xtz0, xt1, xtz1, xt2, xtz2, xt3, xtz3, xt4, xtz4, xt5, xtz5⟩ := xt.f6
          go_wp2
          clear xs0 xsz0 xs1 xsz1 xs2 xsz2 xs3 xsz3 xs4 xsz4 xs5 xsz5 xt0 xtz0 xt1 xtz1 xt2 xtz2 xt3 xtz3 xt4 xtz4 xt5 xtz5
          go_ret
          exact ⟨rfl, hB⟩
      · rw [decide_eq_false p1] at g2
        have hz : homeE ⟨4, 0, lat, lon⟩ ≠ 0 := fun k => p1 (by have h := HZ.1 k; exact h.1.2)
        rw [if_neg hz] at HS
        rw [HS] at TD
        have n1 : (homeE ⟨4, 0, lat, lon⟩ == 0) = false := beq_eq_false_iff_ne.2 hz
        clear hz p0 p1 g3 g4
        clear HZ HS
        generalize homeE ⟨4, 0, lat, lon⟩ = E at *
        have hB : Below W.heap.size W (W.alloc (.cells #[.int .i64 s.mode, .bool s.armed, .bool s.home, .int .i64 s.lat, .int .i64 s.lon, .int .i64 s.iso] 23)) := ((Below.refl _ _).alloc (Nat.le_refl _) _)
        have xs := (Box.new 23 W [.int .i64 s.mode, .bool s.armed, .bool s.home, .int .i64 s.lat, .int .i64 s.lon, .int .i64 s.iso])
        go_enter Try.func8, Try.ntmps8
        obtain ⟨xs0, xsz0, xs1, xsz1, xs2, xsz2, xs3, xsz3, xs4, xsz4, xs5, xsz5⟩ := xs.f6
        go_wp2_with fail
        refine (TI.out _).mono ?_
        rintro e V1 ⟨rfl, hk⟩
        clear xs0 xsz0 xs1 xsz1 xs2 xsz2 xs3 xsz3 xs4 xsz4 xs5 xsz5
        replace hB := below_seq hB hk
        replace xs := xs.seq hk
        clear hk
        obtain ⟨xs0, xsz0, xs1, xsz1, xs2, xsz2, xs3, xsz3, xs4, xsz4, xs5, xsz5⟩ := xs.f6
        go_wp2_with fail
        refine (TL.out _).mono ?_
        rintro e V2 ⟨rfl, hk⟩
        clear xs0 xsz0 xs1 xsz1 xs2 xsz2 xs3 xsz3 xs4 xsz4 xs5 xsz5
        replace hB := below_seq hB hk
        replace xs := xs.seq hk
        clear hk
        obtain ⟨xs0, xsz0, xs1, xsz1, xs2, xsz2, xs3, xsz3, xs4, xsz4, xs5, xsz5⟩ := xs.f6
        go_wp2_with fail
        refine (shown16 _).mono ?_
        rintro e V3 ⟨rfl, hk⟩
        clear xs0 xsz0 xs1 xsz1 xs2 xsz2 xs3 xsz3 xs4 xsz4 xs5 xsz5
        replace hB := below_seq hB hk
        replace xs := xs.seq hk
        clear hk
        obtain ⟨xs0, xsz0, xs1, xsz1, xs2, xsz2, xs3, xsz3, xs4, xsz4, xs5, xsz5⟩ := xs.f6
        go_wp2_with fail
        refine (TD.out _).mono ?_
        rintro e V4 ⟨rfl, hk⟩
        clear xs0 xsz0 xs1 xsz1 xs2 xsz2 xs3 xsz3 xs4 xsz4 xs5 xsz5
        replace hB := below_seq hB hk
        replace xs := xs.seq hk
        clear hk
        have ys0 : ∀ o : Obj, _ := fun o => (xs.alloc o).cell 0 rfl
        have ys1 : ∀ o : Obj, _ := fun o => (xs.alloc o).cell 1 rfl
        have ys2 : ∀ o : Obj, _ := fun o => (xs.alloc o).cell 2 rfl
        have ys3 : ∀ o : Obj, _ := fun o => (xs.alloc o).cell 3 rfl
        have ys4 : ∀ o : Obj, _ := fun o => (xs.alloc o).cell 4 rfl
        have ys5 : ∀ o : Obj, _ := fun o => (xs.alloc o).cell 5 rfl
        have xt := Box.new 23 V4 [.int .i64 s.mode, .bool s.armed, .bool s.home, .int .i64 s.lat, .int .i64 s.lon, .int .i64 s.iso]
        have ne_xt_xs : V4.heap.size ≠ W.heap.size := Nat.ne_of_gt xs.lt
        have le_xt : W.heap.size ≤ V4.heap.size := hB.size
        replace xs := xs.alloc (.cells #[.int .i64 s.mode, .bool s.armed, .bool s.home, .int .i64 s.lat, .int .i64 s.lon, .int .i64 s.iso] 23)
        replace hB := hB.alloc hB.size (.cells #[.int .i64 s.mode, .bool s.armed, .bool s.home, .int .i64 s.lat, .int .i64 s.lon, .int .i64 s.iso] 23)
        obtain ⟨xs0, xsz0, xs1, xsz1, xs2, xsz2, xs3, xsz3, xs4, xsz4, xs5, xsz5⟩ := xs.f6
        obtain ⟨xt0, xtz0, xt1, xtz1, xt2, xtz2, xt3, xtz3, xt4, xtz4, xt5, xtz5⟩ := xt.f6
        go_wp2
        clear xs0 xsz0 xs1 xsz1 xs2 xsz2 xs3 xsz3 xs4 xsz4 xs5 xsz5 xt0 xtz0 xt1 xtz1 xt2 xtz2 xt3 xtz3 xt4 xtz4 xt5 xtz5
        go_ret
        exact ⟨rfl, hB⟩
    · rw [decide_eq_false p0] at g1
      have hz : homeE ⟨4, 0, lat, lon⟩ ≠ 0 := fun k => p0 (by have h := HZ.1 k; exact h.1.1)
      rw [if_neg hz] at HS
      rw [HS] at TD
      have n1 : (homeE ⟨4, 0, lat, lon⟩ == 0) = false := beq_eq_false_iff_ne.2 hz
      clear hz p0 g2 g3 g4
      clear HZ HS
      generalize homeE ⟨4, 0, lat, lon⟩ = E at *
      have hB : Below W.heap.size W (W.alloc (.cells #[.int .i64 s.mode, .bool s.armed, .bool s.home, .int .i64 s.lat, .int .i64 s.lon, .int .i64 s.iso] 23)) := ((Below.refl _ _).alloc (Nat.le_refl _) _)
      have xs := (Box.new 23 W [.int .i64 s.mode, .bool s.armed, .bool s.home, .int .i64 s.lat, .int .i64 s.lon, .int .i64 s.iso])
      go_enter Try.func8, Try.ntmps8
      obtain ⟨xs0, xsz0, xs1, xsz1, xs2, xsz2, xs3, xsz3, xs4, xsz4, xs5, xsz5⟩ := xs.f6
      go_wp2_with fail
      refine (TI.out _).mono ?_
      rintro e V1 ⟨rfl, hk⟩
      clear xs0 xsz0 xs1 xsz1 xs2 xsz2 xs3 xsz3 xs4 xsz4 xs5 xsz5
      replace hB := below_seq hB hk
      replace xs := xs.seq hk
      clear hk
      obtain ⟨xs0, xsz0, xs1, xsz1, xs2, xsz2, xs3, xsz3, xs4, xsz4, xs5, xsz5⟩ := xs.f6
      go_wp2_with fail
      refine (TL.out _).mono ?_
      rintro e V2 ⟨rfl, hk⟩
      clear xs0 xsz0 xs1 xsz1 xs2 xsz2 xs3 xsz3 xs4 xsz4 xs5 xsz5
      replace hB := below_seq hB hk
      replace xs := xs.seq hk
      clear hk
      obtain ⟨xs0, xsz0, xs1, xsz1, xs2, xsz2, xs3, xsz3, xs4, xsz4, xs5, xsz5⟩ := xs.f6
      go_wp2_with fail
      refine (shown16 _).mono ?_
      rintro e V3 ⟨rfl, hk⟩
      clear xs0 xsz0 xs1 xsz1 xs2 xsz2 xs3 xsz3 xs4 xsz4 xs5 xsz5
      replace hB := below_seq hB hk
      replace xs := xs.seq hk
      clear hk
      obtain ⟨xs0, xsz0, xs1, xsz1, xs2, xsz2, xs3, xsz3, xs4, xsz4, xs5, xsz5⟩ := xs.f6
      go_wp2_with fail
      refine (TD.out _).mono ?_
      rintro e V4 ⟨rfl, hk⟩
      clear xs0 xsz0 xs1 xsz1 xs2 xsz2 xs3 xsz3 xs4 xsz4 xs5 xsz5
      replace hB := below_seq hB hk
      replace xs := xs.seq hk
      clear hk
      have ys0 : ∀ o : Obj, _ := fun o => (xs.alloc o).cell 0 rfl
      have ys1 : ∀ o : Obj, _ := fun o => (xs.alloc o).cell 1 rfl
      have ys2 : ∀ o : Obj, _ := fun o => (xs.alloc o).cell 2 rfl
      have ys3 : ∀ o : Obj, _ := fun o => (xs.alloc o).cell 3 rfl
      have ys4 : ∀ o : Obj, _ := fun o => (xs.alloc o).cell 4 rfl
      have ys5 : ∀ o : Obj, _ := fun o => (xs.alloc o).cell 5 rfl
      have xt := Box.new 23 V4 [.int .i64 s.mode, .bool s.armed, .bool s.home, .int .i64 s.lat, .int .i64 s.lon, .int .i64 s.iso]
      have ne_xt_xs : V4.heap.size ≠ W.heap.size := Nat.ne_of_gt xs.lt
      have le_xt : W.heap.size ≤ V4.heap.size := hB.size
      replace xs := xs.alloc (.cells #[.int .i64 s.mode, .bool s.armed, .bool s.home, .int .i64 s.lat, .int .i64 s.lon, .int .i64 s.iso] 23)
      replace hB := hB.alloc hB.size (.cells #[.int .i64 s.mode, .bool s.armed, .bool s.home, .int .i64 s.lat, .int .i64 s.lon, .int .i64 s.iso] 23)
      obtain ⟨xs0, xsz0, xs1, xsz1, xs2, xsz2, xs3, xsz3, xs4, xsz4, xs5, xsz5⟩ := xs.f6
      obtain ⟨xt0, xtz0, xt1, xtz1, xt2, xtz2, xt3, xtz3, xt4, xtz4, xt5, xtz5⟩ := xt.f6
      go_wp2
      clear xs0 xsz0 xs1 xsz1 xs2 xsz2 xs3 xsz3 xs4 xsz4 xs5 xsz5 xt0 xtz0 xt1 xtz1 xt2 xtz2 xt3 xtz3 xt4 xtz4 xt5 xtz5
      go_ret
      exact ⟨rfl, hB⟩
  · have TL := Lib.hid (fun (V : World) => (show Calls Try.prog 10 #[.agg #[.int .i64 s.mode, .bool s.armed, .bool s.home, .int .i64 s.lat, .int .i64 s.lon, .int .i64 s.iso]] V fun e W' => e = .returned (.bool false) ∧ Below V.heap.size V W' from by have h := ref14Legal s V; rwa [not_legal hl] at h))
    clear hl hs
    have hB : Below W.heap.size W (W.alloc (.cells #[.int .i64 s.mode, .bool s.armed, .bool s.home, .int .i64 s.lat, .int .i64 s.lon, .int .i64 s.iso] 23)) := ((Below.refl _ _).alloc (Nat.le_refl _) _)
    have xs := (Box.new 23 W [.int .i64 s.mode, .bool s.armed, .bool s.home, .int .i64 s.lat, .int .i64 s.lon, .int .i64 s.iso])
    go_enter Try.func8, Try.ntmps8
    obtain ⟨xs0, xsz0, xs1, xsz1, xs2, xsz2, xs3, xsz3, xs4, xsz4, xs5, xsz5⟩ := xs.f6
    go_wp2_with fail
    refine (TI.out _).mono ?_
    rintro e V1 ⟨rfl, hk⟩
    clear xs0 xsz0 xs1 xsz1 xs2 xsz2 xs3 xsz3 xs4 xsz4 xs5 xsz5
    replace hB := below_seq hB hk
    replace xs := xs.seq hk
    clear hk
    obtain ⟨xs0, xsz0, xs1, xsz1, xs2, xsz2, xs3, xsz3, xs4, xsz4, xs5, xsz5⟩ := xs.f6
    go_wp2_with fail
    refine (TL.out _).mono ?_
    rintro e V2 ⟨rfl, hk⟩
    clear xs0 xsz0 xs1 xsz1 xs2 xsz2 xs3 xsz3 xs4 xsz4 xs5 xsz5
    replace hB := below_seq hB hk
    replace xs := xs.seq hk
    clear hk
    obtain ⟨xs0, xsz0, xs1, xsz1, xs2, xsz2, xs3, xsz3, xs4, xsz4, xs5, xsz5⟩ := xs.f6
    go_wp2_with fail
    refine (shown16 _).mono ?_
    rintro e V3 ⟨rfl, hk⟩
    clear xs0 xsz0 xs1 xsz1 xs2 xsz2 xs3 xsz3 xs4 xsz4 xs5 xsz5
    replace hB := below_seq hB hk
    replace xs := xs.seq hk
    clear hk
    obtain ⟨xs0, xsz0, xs1, xsz1, xs2, xsz2, xs3, xsz3, xs4, xsz4, xs5, xsz5⟩ := xs.f6
    go_wp2
    go_ret
    exact ⟨rfl, hB⟩

theorem own : ownKnob Try.prog.godebug = none := by kernel_rfl

set_option maxRecDepth 100000 in
theorem lifted (os : Os) (started : os.Started) (H : Type) (enc : TypeId × Value → H) :
    ReturnsInHanded {} Try.checked os 8 .any (Rows.commandHomeSpec.pre6 enc Try.prog Try.f8 Rows.commandHomeRow.domain false) (Rows.commandHomeSpec.post enc Try.prog Try.f8 false true false false) := by
  refine returnsInHanded_of_change (C := Try.checked) own started (by kernel_rfl) Try.func8
    (ChangeSpec.witness6 (enc := enc) (C := Try.checked) false ⟨#[], #[.agg #[.int .i64 0, .bool false, .bool false, .int .i64 0, .int .i64 0, .int .i64 0], .float .f64 0, .float .f64 0], []⟩ 8 (by kernel_rfl) (by kernel_rfl) (by kernel_rfl) (by kernel_rfl)) ?_
  intro W base args ds gs before hval hW _ _
  have hW' := hW
  obtain ⟨p, q, hA0, hV, rfl, hfz, hnd⟩ := hW
  have hA : DataW.TrodAll enc Try.prog W 0 (fun _ => true) true Try.f8.params.toList args.toList ds p := hA0
  rw [Try.params8] at hA hval
  obtain ⟨v0, vs0, d0, ds0, p0, q0, hargs, rfl, rfl, h0, r0⟩ := trodAll_cons hA
  obtain ⟨v1, vs1, d1, ds1, p1, q1, rfl, rfl, rfl, h1, r1⟩ := trodAll_cons r0
  obtain ⟨v2, vs2, d2, ds2, p2, q2, rfl, rfl, rfl, h2, r2⟩ := trodAll_cons r1
  obtain ⟨rfl, rfl, rfl⟩ := trodAll_nil r2
  obtain rfl : args = #[v0, v1, v2] := by cases args; simp_all
  obtain ⟨rfl, rfl⟩ := trodVars_none hV
  have k0 := h0
  obtain ⟨s0, rfl, hs0⟩ := open_st (hval 0 23 v0 rfl rfl) h0
  obtain ⟨a1, rfl, rfl, rfl, w1⟩ := open_float Try.underlying24 (hval 1 24 v1 rfl rfl) h1
  obtain ⟨a2, rfl, rfl, rfl, w2⟩ := open_float Try.underlying24 (hval 2 24 v2 rfl rfl) h2
  clear hA0
  simp only [List.append_nil] at hW'
  refine (walk s0 a1 a2 W hs0 (float_wf w1) (float_wf w2)).mono fun e W' ⟨he, hB⟩ => ?_
  subst he
  exact ⟨_, rfl, ⟨_, _, _, [], _, [], hW', trodAll_cons_mk (shut_bool Try.underlying4 _) trodAll_mk0, (trodAll_cons_mk (Below.trod Try.laidOut (by kernel_rfl) (of_decide_eq_true (by kernel_rfl)) k0 hB (fun x hx => by simpa using hW'.lt x (by simp [hx]))) (trodAll_cons_mk (shut_float Try.underlying24 w1) (trodAll_cons_mk (shut_float Try.underlying24 w2) trodAll_mk0))), rfl, hB.frame _, fun h => by cases h⟩⟩

theorem holds : Rows.CommandHomeSaid :=
  OpenClaim.holds_of_wide 8 Try.f8 rfl rfl rfl rfl rfl rfl rfl ⟨rfl, rfl, rfl, rfl, rfl⟩ rfl rfl rfl rfl rfl (by kernel_rfl) Try.func8 (by kernel_rfl)
    (of_decide_eq_true (by kernel_rfl)) (by unfold Func.isWrapper; first | (rw [if_pos (by decide +kernel)]; kernel_rfl) | (rw [if_neg (by decide +kernel)]; exact ⟨rfl, rfl⟩))
    (fun os started H enc _ => lifted os started H enc)
end Go.Proofs.Ytdfacpppmfoiiaa.CommandHome

/- A sensor more that is isolated is one less that is sound; all and none are the ends (StateSound); no condition. -/
import Derived.Test.YtkdadjojahfmeaaStateLaw
import Derived.Deep.RegionHeld3
import Derived.WalkLawsBesides
import Derived.WalkSpells
import Derived.IntWalk
import Derived.Lib.Hide
import Derived.Test.YtkdadjojahfmeaaBox
import Derived.ProofKit
import Derived.OpenShut
import Derived.ChangeMaps5
import Derived.Test.YtkdadjojahfmeaaInts
namespace Go.Proofs.Ytkdadjojahfmeaa.StateSound
open Go.ChangeShapes Go.WideShapes Go.ChangeAt Go.RowKit Go.ChangeMaps
set_option linter.unusedVariables false
set_option linter.unusedSimpArgs false
theorem sound_bit : ∀ i : Nat, i < 16 → ∀ j : Nat, j < 4 → (soundN (bits .andNot .i64 (i : Int) ((2 ^ j : Nat) : Int)) = soundN (bits .or .i64 (i : Int) ((2 ^ j : Nat) : Int)) + 1) ∧ (0 ≤ bits .andNot .i64 (i : Int) ((2 ^ j : Nat) : Int)) ∧ (bits .andNot .i64 (i : Int) ((2 ^ j : Nat) : Int) ≤ 15) ∧ (0 ≤ bits .or .i64 (i : Int) ((2 ^ j : Nat) : Int)) ∧ (bits .or .i64 (i : Int) ((2 ^ j : Nat) : Int) ≤ 15) ∧ (soundN (i : Int) = 4 ↔ i = 0) := by decide

set_option maxRecDepth 100000 in
set_option maxHeartbeats 4000000 in
theorem soundIn (m : Int) (b1 b2 : Bool) (la lo : Int) (i : Nat) (k : UInt8) (W : World) (hi : i < 16) (TA : ∀ W : World, Gives Try.prog 15 #[.agg #[.int .i64 m, .bool b1, .bool b2, .int .i64 la, .int .i64 lo, .int .i64 (bits .andNot .i64 (i : Int) ((2 ^ (k.toNat % 4) : Nat) : Int))]] W (.int .i64 ((soundN (bits .andNot .i64 (i : Int) ((2 ^ (k.toNat % 4) : Nat) : Int)) : Nat) : Int))) (TO : ∀ W : World, Gives Try.prog 15 #[.agg #[.int .i64 m, .bool b1, .bool b2, .int .i64 la, .int .i64 lo, .int .i64 (bits .or .i64 (i : Int) ((2 ^ (k.toNat % 4) : Nat) : Int))]] W (.int .i64 ((soundN (bits .or .i64 (i : Int) ((2 ^ (k.toNat % 4) : Nat) : Int)) : Nat) : Int))) (TS : ∀ W : World, Gives Try.prog 15 #[.agg #[.int .i64 m, .bool b1, .bool b2, .int .i64 la, .int .i64 lo, .int .i64 (i : Int)]] W (.int .i64 ((soundN (i : Int) : Nat) : Int))) :
    Gives Try.prog 6 #[.agg #[.int .i64 m, .bool b1, .bool b2, .int .i64 la, .int .i64 lo, .int .i64 (i : Int)], .int .u8 (k.toNat : Int)] W (.bool true) := by
  have hj4 := Nat.mod_lt k.toNat (show 4 > 0 by decide)
  obtain ⟨f1, f2, f3, f4, f5, f6⟩ := sound_bit i hi (k.toNat % 4) hj4
  have f7 := sound_le (i : Int)
  have c1 : ¬ (i : Int) < 0 := by omega
  have c2 : ¬ (i : Int) > 15 := by omega
  have wj := (show ∀ j : Nat, j < 4 → wrap64 ((2 : Int) ^ j) = ((2 ^ j : Nat) : Int) from by { intro j hj; have : j = 0 ∨ j = 1 ∨ j = 2 ∨ j = 3 := (by omega); rcases this with rfl | rfl | rfl | rfl <;> simp [wrap64] }) (k.toNat % 4) hj4
  have hA : bits .andNot .i64 (i : Int) (wrap64 ((2 : Int) ^ (k.toNat % 4))) = bits .andNot .i64 (i : Int) ((2 ^ (k.toNat % 4) : Nat) : Int) := by rw [wj]
  have hO : bits .or .i64 (i : Int) (wrap64 ((2 : Int) ^ (k.toNat % 4))) = bits .or .i64 (i : Int) ((2 ^ (k.toNat % 4) : Nat) : Int) := by rw [wj]
  clear wj
  generalize bits .andNot .i64 (i : Int) ((2 ^ (k.toNat % 4) : Nat) : Int) = a at *
  generalize bits .or .i64 (i : Int) ((2 ^ (k.toNat % 4) : Nat) : Int) = r at *
  generalize soundN (i : Int) = si at *
  generalize soundN a = sa at *
  have f8 := sound_le r
  generalize soundN r = sr at *
  subst f1
  have q2 : (si : Int) ≥ 0 := by omega
  have q3 : (si : Int) ≤ 4 := by omega
  have q4 : IntKind.i64.wrap ((sr : Int) + 1) = (sr : Int) + 1 := by rw [IntKind.wrap_i64]; omega
  simp only [Int.natCast_add, Int.natCast_one] at TA
  clear f2 f3 f4 f5 f7 f8 hj4
  replace TA := Lib.hid TA
  replace TO := Lib.hid TO
  replace TS := Lib.hid TS
  by_cases hz : i = 0
  · skip
    have e1 : ((si : Int) == 4) = true := beq_iff_eq.2 (by have := f6.2 hz; omega)
    have e2 : ((i : Int) == 0) = true := beq_iff_eq.2 (by omega)
    clear f6 hz
    have hB : Below W.heap.size W (W.alloc (.cells #[.int .i64 m, .bool b1, .bool b2, .int .i64 la, .int .i64 lo, .int .i64 (i : Int)] 23)) := ((Below.refl _ _).alloc (Nat.le_refl _) _)
    have xs := (Box.new 23 W [.int .i64 m, .bool b1, .bool b2, .int .i64 la, .int .i64 lo, .int .i64 (i : Int)])
    go_enter Try.func6, Try.ntmps6
    obtain ⟨xs0, xsz0, xs1, xsz1, xs2, xsz2, xs3, xsz3, xs4, xsz4, xs5, xsz5⟩ := xs.f6
    go_wp2_with fail
    refine (shown14 _).mono ?_
    rintro e V1 ⟨rfl, hk⟩
    clear xs0 xsz0 xs1 xsz1 xs2 xsz2 xs3 xsz3 xs4 xsz4 xs5 xsz5
    replace hB := below_seq hB hk
    replace xs := xs.seq hk
    clear hk
    obtain ⟨xs0, xsz0, xs1, xsz1, xs2, xsz2, xs3, xsz3, xs4, xsz4, xs5, xsz5⟩ := xs.f6
    clear xs0 xsz0 xs1 xsz1 xs2 xsz2 xs3 xsz3 xs4 xsz4 xs5 xsz5
    have xsC0 := xs.cell 0 rfl
    have xsA0 := fun o : Obj => (xs.alloc o).cell 0 rfl
    have xsB0 := fun o p : Obj => ((xs.alloc o).alloc p).cell 0 rfl
    have xsC1 := xs.cell 1 rfl
    have xsA1 := fun o : Obj => (xs.alloc o).cell 1 rfl
    have xsB1 := fun o p : Obj => ((xs.alloc o).alloc p).cell 1 rfl
    have xsC2 := xs.cell 2 rfl
    have xsA2 := fun o : Obj => (xs.alloc o).cell 2 rfl
    have xsB2 := fun o p : Obj => ((xs.alloc o).alloc p).cell 2 rfl
    have xsC3 := xs.cell 3 rfl
    have xsA3 := fun o : Obj => (xs.alloc o).cell 3 rfl
    have xsB3 := fun o p : Obj => ((xs.alloc o).alloc p).cell 3 rfl
    have xsC4 := xs.cell 4 rfl
    have xsA4 := fun o : Obj => (xs.alloc o).cell 4 rfl
    have xsB4 := fun o p : Obj => ((xs.alloc o).alloc p).cell 4 rfl
    have xsC5 := xs.cell 5 rfl
    have xsA5 := fun o : Obj => (xs.alloc o).cell 5 rfl
    have xsB5 := fun o p : Obj => ((xs.alloc o).alloc p).cell 5 rfl
    go_wp2_with fail
    clear xsC0 xsA0 xsB0 xsC1 xsA1 xsB1 xsC2 xsA2 xsB2 xsC3 xsA3 xsB3 xsC4 xsA4 xsB4 xsC5 xsA5 xsB5
    have xo := Box.new 23 V1 [.int .i64 m, .bool b1, .bool b2, .int .i64 la, .int .i64 lo, .int .i64 r]
    have ne_xo_xs : V1.heap.size ≠ W.heap.size := Nat.ne_of_gt xs.lt
    have le_xo : W.heap.size ≤ V1.heap.size := hB.size
    replace xs := xs.alloc (.cells #[.int .i64 m, .bool b1, .bool b2, .int .i64 la, .int .i64 lo, .int .i64 r] 23)
    replace hB := hB.alloc hB.size (.cells #[.int .i64 m, .bool b1, .bool b2, .int .i64 la, .int .i64 lo, .int .i64 r] 23)
    obtain ⟨xs0, xsz0, xs1, xsz1, xs2, xsz2, xs3, xsz3, xs4, xsz4, xs5, xsz5⟩ := xs.f6
    obtain ⟨xo0, xoz0, xo1, xoz1, xo2, xoz2, xo3, xoz3, xo4, xoz4, xo5, xoz5⟩ := xo.f6
    clear xs0 xsz0 xs1 xsz1 xs2 xsz2 xs3 xsz3 xs4 xsz4 xs5 xsz5 xo0 xoz0 xo1 xoz1 xo2 xoz2 xo3 xoz3 xo4 xoz4 xo5 xoz5
    have xa : Box 23 ((V1.alloc (.cells #[.int .i64 m, .bool b1, .bool b2, .int .i64 la, .int .i64 lo, .int .i64 r] 23)).alloc (.cells #[.int .i64 m, .bool b1, .bool b2, .int .i64 la, .int .i64 lo, .int .i64 a] 23)) (V1.heap.size + 1) [.int .i64 m, .bool b1, .bool b2, .int .i64 la, .int .i64 lo, .int .i64 a] := by have h := Box.new 23 (V1.alloc (.cells #[.int .i64 m, .bool b1, .bool b2, .int .i64 la, .int .i64 lo, .int .i64 r] 23)) [.int .i64 m, .bool b1, .bool b2, .int .i64 la, .int .i64 lo, .int .i64 a]; rwa [World.size_alloc] at h
    have ne_xa_xs : V1.heap.size + 1 ≠ W.heap.size := by have h := xs.lt; rw [World.size_alloc] at h; omega
    have ne_xa_xo : V1.heap.size + 1 ≠ V1.heap.size := by have h := xo.lt; rw [World.size_alloc] at h; omega
    have le_xa : W.heap.size ≤ V1.heap.size + 1 := by have h := hB.size; rw [World.size_alloc] at h; exact h
    replace xs := xs.alloc (.cells #[.int .i64 m, .bool b1, .bool b2, .int .i64 la, .int .i64 lo, .int .i64 a] 23)
    replace xo := xo.alloc (.cells #[.int .i64 m, .bool b1, .bool b2, .int .i64 la, .int .i64 lo, .int .i64 a] 23)
    replace hB := hB.alloc hB.size (.cells #[.int .i64 m, .bool b1, .bool b2, .int .i64 la, .int .i64 lo, .int .i64 a] 23)
    obtain ⟨xs0, xsz0, xs1, xsz1, xs2, xsz2, xs3, xsz3, xs4, xsz4, xs5, xsz5⟩ := xs.f6
    obtain ⟨xo0, xoz0, xo1, xoz1, xo2, xoz2, xo3, xoz3, xo4, xoz4, xo5, xoz5⟩ := xo.f6
    obtain ⟨xa0, xaz0, xa1, xaz1, xa2, xaz2, xa3, xaz3, xa4, xaz4, xa5, xaz5⟩ := xa.f6
    generalize ((V1.alloc (.cells #[.int .i64 m, .bool b1, .bool b2, .int .i64 la, .int .i64 lo, .int .i64 r] 23)).alloc (.cells #[.int .i64 m, .bool b1, .bool b2, .int .i64 la, .int .i64 lo, .int .i64 a] 23)) = V2 at *
    clear xs0 xsz0 xs1 xsz1 xs2 xsz2 xs3 xsz3 xs4 xsz4 xs5 xsz5 xo0 xoz0 xo1 xoz1 xo2 xoz2 xo3 xoz3 xo4 xoz4 xo5 xoz5 xa0 xaz0 xa1 xaz1 xa2 xaz2 xa3 xaz3 xa4 xaz4 xa5 xaz5
    replace hB := hB.drew
    replace xs := xs.drew
    replace xo := xo.drew
    replace xa := xa.drew
    refine wp_region_held_drew (S := fun w' => w'.cell? ⟨W.heap.size, 0, none⟩ = some (.int .i64 m) ∧ w'.cell? ⟨W.heap.size, 1, none⟩ = some (.bool b1) ∧ w'.cell? ⟨W.heap.size, 2, none⟩ = some (.bool b2) ∧ w'.cell? ⟨W.heap.size, 3, none⟩ = some (.int .i64 la) ∧ w'.cell? ⟨W.heap.size, 4, none⟩ = some (.int .i64 lo) ∧ w'.cell? ⟨W.heap.size, 5, none⟩ = some (.int .i64 (i : Int)) ∧ w'.cell? ⟨V1.heap.size, 0, none⟩ = some (.int .i64 m) ∧ w'.cell? ⟨V1.heap.size, 1, none⟩ = some (.bool b1) ∧ w'.cell? ⟨V1.heap.size, 2, none⟩ = some (.bool b2) ∧ w'.cell? ⟨V1.heap.size, 3, none⟩ = some (.int .i64 la) ∧ w'.cell? ⟨V1.heap.size, 4, none⟩ = some (.int .i64 lo) ∧ w'.cell? ⟨V1.heap.size, 5, none⟩ = some (.int .i64 r) ∧ w'.cell? ⟨V1.heap.size + 1, 0, none⟩ = some (.int .i64 m) ∧ w'.cell? ⟨V1.heap.size + 1, 1, none⟩ = some (.bool b1) ∧ w'.cell? ⟨V1.heap.size + 1, 2, none⟩ = some (.bool b2) ∧ w'.cell? ⟨V1.heap.size + 1, 3, none⟩ = some (.int .i64 la) ∧ w'.cell? ⟨V1.heap.size + 1, 4, none⟩ = some (.int .i64 lo) ∧ w'.cell? ⟨V1.heap.size + 1, 5, none⟩ = some (.int .i64 a)) (by kernel_rfl) ?_ (fun hHeld => ?_)
    · exact ⟨xs.cell 0 rfl, xs.cell 1 rfl, xs.cell 2 rfl, xs.cell 3 rfl, xs.cell 4 rfl, xs.cell 5 rfl, xo.cell 0 rfl, xo.cell 1 rfl, xo.cell 2 rfl, xo.cell 3 rfl, xo.cell 4 rfl, xo.cell 5 rfl, xa.cell 0 rfl, xa.cell 1 rfl, xa.cell 2 rfl, xa.cell 3 rfl, xa.cell 4 rfl, xa.cell 5 rfl⟩
    generalize V2.drew = V3 at *
    refine tk 0 (v := ?_) rfl (Or.inl ⟨by rfl, ?_⟩) ?_; rotate_left
    · intro w hSw; (try dsimp only at hSw); go_simp; try with_reducible rfl
    try simp only [Act.put, l1, l2, l3, l4, l5, l6]
    refine tk 2 (v := ?_) rfl (Or.inl ⟨by rfl, ?_⟩) ?_; rotate_left
    · intro w hSw; (try dsimp only at hSw); go_simp; try with_reducible rfl
    try simp only [Act.put, l1, l2, l3, l4, l5, l6]
    refine wpAnyH_ready (rs := [1]) (by kernel_rfl) (by simp) ?_
    refine AllReadyH.cons rfl (fun K hK => ?_) AllReadyH.nil
    obtain ⟨xs0, xsz0, xs1, xsz1, xs2, xsz2, xs3, xsz3, xs4, xsz4, xs5, xsz5⟩ := xs.f6
    obtain ⟨xo0, xoz0, xo1, xoz1, xo2, xoz2, xo3, xoz3, xo4, xoz4, xo5, xoz5⟩ := xo.f6
    obtain ⟨xa0, xaz0, xa1, xaz1, xa2, xaz2, xa3, xaz3, xa4, xaz4, xa5, xaz5⟩ := xa.f6
    go_simp
    refine (TA.out _).mono ?_
    rintro e V4 ⟨rfl, hk⟩
    clear xs0 xsz0 xs1 xsz1 xs2 xsz2 xs3 xsz3 xs4 xsz4 xs5 xsz5 xo0 xoz0 xo1 xoz1 xo2 xoz2 xo3 xoz3 xo4 xoz4 xo5 xoz5 xa0 xaz0 xa1 xaz1 xa2 xaz2 xa3 xaz3 xa4 xaz4 xa5 xaz5
    replace hB := below_seq hB hk
    replace xs := xs.seq hk
    replace xo := xo.seq hk
    replace xa := xa.seq hk
    clear hk
    obtain ⟨xs0, xsz0, xs1, xsz1, xs2, xsz2, xs3, xsz3, xs4, xsz4, xs5, xsz5⟩ := xs.f6
    obtain ⟨xo0, xoz0, xo1, xoz1, xo2, xoz2, xo3, xoz3, xo4, xoz4, xo5, xoz5⟩ := xo.f6
    obtain ⟨xa0, xaz0, xa1, xaz1, xa2, xaz2, xa3, xaz3, xa4, xaz4, xa5, xaz5⟩ := xa.f6
    try go_wp2_with fail
    clear xs0 xsz0 xs1 xsz1 xs2 xsz2 xs3 xsz3 xs4 xsz4 xs5 xsz5 xo0 xoz0 xo1 xoz1 xo2 xoz2 xo3 xoz3 xo4 xoz4 xo5 xoz5 xa0 xaz0 xa1 xaz1 xa2 xaz2 xa3 xaz3 xa4 xaz4 xa5 xaz5
    clear hHeld
    refine hK.out _ _ ?_ (fun hHeld => ?_)
    · exact ⟨xs.cell 0 rfl, xs.cell 1 rfl, xs.cell 2 rfl, xs.cell 3 rfl, xs.cell 4 rfl, xs.cell 5 rfl, xo.cell 0 rfl, xo.cell 1 rfl, xo.cell 2 rfl, xo.cell 3 rfl, xo.cell 4 rfl, xo.cell 5 rfl, xa.cell 0 rfl, xa.cell 1 rfl, xa.cell 2 rfl, xa.cell 3 rfl, xa.cell 4 rfl, xa.cell 5 rfl⟩
    clear hK K
    try simp only [Act.put, l1, l2, l3, l4, l5, l6]
    refine wpAnyH_ready (rs := [3]) (by kernel_rfl) (by simp) ?_
    refine AllReadyH.cons rfl (fun K hK => ?_) AllReadyH.nil
    obtain ⟨xs0, xsz0, xs1, xsz1, xs2, xsz2, xs3, xsz3, xs4, xsz4, xs5, xsz5⟩ := xs.f6
    obtain ⟨xo0, xoz0, xo1, xoz1, xo2, xoz2, xo3, xoz3, xo4, xoz4, xo5, xoz5⟩ := xo.f6
    obtain ⟨xa0, xaz0, xa1, xaz1, xa2, xaz2, xa3, xaz3, xa4, xaz4, xa5, xaz5⟩ := xa.f6
    go_simp
    refine (TO.out _).mono ?_
    rintro e V5 ⟨rfl, hk⟩
    clear xs0 xsz0 xs1 xsz1 xs2 xsz2 xs3 xsz3 xs4 xsz4 xs5 xsz5 xo0 xoz0 xo1 xoz1 xo2 xoz2 xo3 xoz3 xo4 xoz4 xo5 xoz5 xa0 xaz0 xa1 xaz1 xa2 xaz2 xa3 xaz3 xa4 xaz4 xa5 xaz5
    replace hB := below_seq hB hk
    replace xs := xs.seq hk
    replace xo := xo.seq hk
    replace xa := xa.seq hk
    clear hk
    obtain ⟨xs0, xsz0, xs1, xsz1, xs2, xsz2, xs3, xsz3, xs4, xsz4, xs5, xsz5⟩ := xs.f6
    obtain ⟨xo0, xoz0, xo1, xoz1, xo2, xoz2, xo3, xoz3, xo4, xoz4, xo5, xoz5⟩ := xo.f6
    obtain ⟨xa0, xaz0, xa1, xaz1, xa2, xaz2, xa3, xaz3, xa4, xaz4, xa5, xaz5⟩ := xa.f6
    try go_wp2_with fail
    clear xs0 xsz0 xs1 xsz1 xs2 xsz2 xs3 xsz3 xs4 xsz4 xs5 xsz5 xo0 xoz0 xo1 xoz1 xo2 xoz2 xo3 xoz3 xo4 xoz4 xo5 xoz5 xa0 xaz0 xa1 xaz1 xa2 xaz2 xa3 xaz3 xa4 xaz4 xa5 xaz5
    clear hHeld
    refine hK.out _ _ ?_ (fun hHeld => ?_)
    · exact ⟨xs.cell 0 rfl, xs.cell 1 rfl, xs.cell 2 rfl, xs.cell 3 rfl, xs.cell 4 rfl, xs.cell 5 rfl, xo.cell 0 rfl, xo.cell 1 rfl, xo.cell 2 rfl, xo.cell 3 rfl, xo.cell 4 rfl, xo.cell 5 rfl, xa.cell 0 rfl, xa.cell 1 rfl, xa.cell 2 rfl, xa.cell 3 rfl, xa.cell 4 rfl, xa.cell 5 rfl⟩
    clear hK K
    try simp only [Act.put, l1, l2, l3, l4, l5, l6]
    refine tk 4 (v := ?_) rfl (Or.inl ⟨by rfl, ?_⟩) ?_; rotate_left
    · intro w hSw; (try dsimp only at hSw); go_simp; try with_reducible rfl
    try simp only [Act.put, l1, l2, l3, l4, l5, l6]
    refine tk 5 (v := ?_) rfl (Or.inl ⟨by rfl, ?_⟩) ?_; rotate_left
    · intro w hSw; (try dsimp only at hSw); go_simp; try with_reducible rfl
    try simp only [Act.put, l1, l2, l3, l4, l5, l6]
    refine tk 6 (v := ?_) rfl (Or.inl ⟨by rfl, ?_⟩) ?_; rotate_left
    · intro w hSw; (try dsimp only at hSw); go_simp; try with_reducible rfl
    try simp only [Act.put, l1, l2, l3, l4, l5, l6]
    refine tk 7 (v := ?_) rfl (Or.inl ⟨by rfl, ?_⟩) ?_; rotate_left
    · intro w hSw; (try dsimp only at hSw); go_simp; try with_reducible rfl
    try simp only [Act.put, l1, l2, l3, l4, l5, l6]
    refine wpAnyH_ready (rs := [8]) (by kernel_rfl) (by simp) ?_
    refine AllReadyH.cons rfl (fun K hK => ?_) AllReadyH.nil
    obtain ⟨xs0, xsz0, xs1, xsz1, xs2, xsz2, xs3, xsz3, xs4, xsz4, xs5, xsz5⟩ := xs.f6
    obtain ⟨xo0, xoz0, xo1, xoz1, xo2, xoz2, xo3, xoz3, xo4, xoz4, xo5, xoz5⟩ := xo.f6
    obtain ⟨xa0, xaz0, xa1, xaz1, xa2, xaz2, xa3, xaz3, xa4, xaz4, xa5, xaz5⟩ := xa.f6
    go_simp
    refine (TS.out _).mono ?_
    rintro e V6 ⟨rfl, hk⟩
    clear xs0 xsz0 xs1 xsz1 xs2 xsz2 xs3 xsz3 xs4 xsz4 xs5 xsz5 xo0 xoz0 xo1 xoz1 xo2 xoz2 xo3 xoz3 xo4 xoz4 xo5 xoz5 xa0 xaz0 xa1 xaz1 xa2 xaz2 xa3 xaz3 xa4 xaz4 xa5 xaz5
    replace hB := below_seq hB hk
    replace xs := xs.seq hk
    replace xo := xo.seq hk
    replace xa := xa.seq hk
    clear hk
    obtain ⟨xs0, xsz0, xs1, xsz1, xs2, xsz2, xs3, xsz3, xs4, xsz4, xs5, xsz5⟩ := xs.f6
    obtain ⟨xo0, xoz0, xo1, xoz1, xo2, xoz2, xo3, xoz3, xo4, xoz4, xo5, xoz5⟩ := xo.f6
    obtain ⟨xa0, xaz0, xa1, xaz1, xa2, xaz2, xa3, xaz3, xa4, xaz4, xa5, xaz5⟩ := xa.f6
    try go_wp2_with fail
    clear xs0 xsz0 xs1 xsz1 xs2 xsz2 xs3 xsz3 xs4 xsz4 xs5 xsz5 xo0 xoz0 xo1 xoz1 xo2 xoz2 xo3 xoz3 xo4 xoz4 xo5 xoz5 xa0 xaz0 xa1 xaz1 xa2 xaz2 xa3 xaz3 xa4 xaz4 xa5 xaz5
    clear hHeld
    refine hK.out _ _ ?_ (fun hHeld => ?_)
    · exact ⟨xs.cell 0 rfl, xs.cell 1 rfl, xs.cell 2 rfl, xs.cell 3 rfl, xs.cell 4 rfl, xs.cell 5 rfl, xo.cell 0 rfl, xo.cell 1 rfl, xo.cell 2 rfl, xo.cell 3 rfl, xo.cell 4 rfl, xo.cell 5 rfl, xa.cell 0 rfl, xa.cell 1 rfl, xa.cell 2 rfl, xa.cell 3 rfl, xa.cell 4 rfl, xa.cell 5 rfl⟩
    clear hK K
    try simp only [Act.put, l1, l2, l3, l4, l5, l6]
    refine tk 9 (v := ?_) rfl (Or.inl ⟨by rfl, ?_⟩) ?_; rotate_left
    · intro w hSw; (try dsimp only at hSw); go_simp; try with_reducible rfl
    try simp only [Act.put, l1, l2, l3, l4, l5, l6]
    refine tk 10 (v := ?_) rfl (Or.inl ⟨by rfl, ?_⟩) ?_; rotate_left
    · intro w hSw; (try dsimp only at hSw); go_simp; try with_reducible rfl
    try simp only [Act.put, l1, l2, l3, l4, l5, l6]
    refine tk 11 (v := ?_) rfl (Or.inl ⟨by rfl, ?_⟩) ?_; rotate_left
    · intro w hSw; (try dsimp only at hSw); go_simp; try with_reducible rfl
    try simp only [Act.put, l1, l2, l3, l4, l5, l6]
    refine tk 12 (v := ?_) rfl (Or.inl ⟨by rfl, ?_⟩) ?_; rotate_left
    · intro w hSw; (try dsimp only at hSw); go_simp; try with_reducible rfl
    try simp only [Act.put, l1, l2, l3, l4, l5, l6]
    refine wpAnyH_ready (rs := [13]) (by kernel_rfl) (by simp) ?_
    refine AllReadyH.cons rfl (fun K hK => ?_) AllReadyH.nil
    obtain ⟨xs0, xsz0, xs1, xsz1, xs2, xsz2, xs3, xsz3, xs4, xsz4, xs5, xsz5⟩ := xs.f6
    obtain ⟨xo0, xoz0, xo1, xoz1, xo2, xoz2, xo3, xoz3, xo4, xoz4, xo5, xoz5⟩ := xo.f6
    obtain ⟨xa0, xaz0, xa1, xaz1, xa2, xaz2, xa3, xaz3, xa4, xaz4, xa5, xaz5⟩ := xa.f6
    go_simp
    refine (TS.out _).mono ?_
    rintro e V7 ⟨rfl, hk⟩
    clear xs0 xsz0 xs1 xsz1 xs2 xsz2 xs3 xsz3 xs4 xsz4 xs5 xsz5 xo0 xoz0 xo1 xoz1 xo2 xoz2 xo3 xoz3 xo4 xoz4 xo5 xoz5 xa0 xaz0 xa1 xaz1 xa2 xaz2 xa3 xaz3 xa4 xaz4 xa5 xaz5
    replace hB := below_seq hB hk
    replace xs := xs.seq hk
    replace xo := xo.seq hk
    replace xa := xa.seq hk
    clear hk
    obtain ⟨xs0, xsz0, xs1, xsz1, xs2, xsz2, xs3, xsz3, xs4, xsz4, xs5, xsz5⟩ := xs.f6
    obtain ⟨xo0, xoz0, xo1, xoz1, xo2, xoz2, xo3, xoz3, xo4, xoz4, xo5, xoz5⟩ := xo.f6
    obtain ⟨xa0, xaz0, xa1, xaz1, xa2, xaz2, xa3, xaz3, xa4, xaz4, xa5, xaz5⟩ := xa.f6
    try go_wp2_with fail
    clear xs0 xsz0 xs1 xsz1 xs2 xsz2 xs3 xsz3 xs4 xsz4 xs5 xsz5 xo0 xoz0 xo1 xoz1 xo2 xoz2 xo3 xoz3 xo4 xoz4 xo5 xoz5 xa0 xaz0 xa1 xaz1 xa2 xaz2 xa3 xaz3 xa4 xaz4 xa5 xaz5
    clear hHeld
    refine hK.out _ _ ?_ (fun hHeld => ?_)
    · exact ⟨xs.cell 0 rfl, xs.cell 1 rfl, xs.cell 2 rfl, xs.cell 3 rfl, xs.cell 4 rfl, xs.cell 5 rfl, xo.cell 0 rfl, xo.cell 1 rfl, xo.cell 2 rfl, xo.cell 3 rfl, xo.cell 4 rfl, xo.cell 5 rfl, xa.cell 0 rfl, xa.cell 1 rfl, xa.cell 2 rfl, xa.cell 3 rfl, xa.cell 4 rfl, xa.cell 5 rfl⟩
    clear hK K
    try simp only [Act.put, l1, l2, l3, l4, l5, l6]
    refine tk 14 (v := ?_) rfl (Or.inl ⟨by rfl, ?_⟩) ?_; rotate_left
    · intro w hSw; (try dsimp only at hSw); go_simp; try with_reducible rfl
    try simp only [Act.put, l1, l2, l3, l4, l5, l6]
    refine tk 15 (v := ?_) rfl (Or.inl ⟨by rfl, ?_⟩) ?_; rotate_left
    · intro w hSw; (try dsimp only at hSw); go_simp; try with_reducible rfl
    try simp only [Act.put, l1, l2, l3, l4, l5, l6]
    refine tk 16 (v := ?_) rfl (Or.inl ⟨by rfl, ?_⟩) ?_; rotate_left
    · intro w hSw; (try dsimp only at hSw); go_simp; try with_reducible rfl
    try simp only [Act.put, l1, l2, l3, l4, l5, l6]
    refine tk 17 (v := ?_) rfl (Or.inl ⟨by rfl, ?_⟩) ?_; rotate_left
    · intro w hSw; (try dsimp only at hSw); go_simp; try with_reducible rfl
    try simp only [Act.put, l1, l2, l3, l4, l5, l6]
    refine tk 20 (v := ?_) rfl (Or.inl ⟨by rfl, ?_⟩) ?_; rotate_left
    · intro w hSw; (try dsimp only at hSw); go_simp; try with_reducible rfl
    try simp only [Act.put, l1, l2, l3, l4, l5, l6]
    refine tk 21 (v := ?_) rfl (Or.inl ⟨by rfl, ?_⟩) ?_; rotate_left
    · intro w hSw; (try dsimp only at hSw); go_simp; try with_reducible rfl
    try simp only [Act.put, l1, l2, l3, l4, l5, l6]
    refine tk 22 (v := ?_) rfl (Or.inl ⟨by rfl, ?_⟩) ?_; rotate_left
    · intro w hSw; (try dsimp only at hSw); go_simp; try with_reducible rfl
    try simp only [Act.put, l1, l2, l3, l4, l5, l6]
    refine wpAnyH_ready (rs := [18]) (by kernel_rfl) (by simp) ?_
    refine AllReadyH.cons rfl (fun K hK => ?_) AllReadyH.nil
    obtain ⟨xs0, xsz0, xs1, xsz1, xs2, xsz2, xs3, xsz3, xs4, xsz4, xs5, xsz5⟩ := xs.f6
    obtain ⟨xo0, xoz0, xo1, xoz1, xo2, xoz2, xo3, xoz3, xo4, xoz4, xo5, xoz5⟩ := xo.f6
    obtain ⟨xa0, xaz0, xa1, xaz1, xa2, xaz2, xa3, xaz3, xa4, xaz4, xa5, xaz5⟩ := xa.f6
    go_simp
    refine (TS.out _).mono ?_
    rintro e V8 ⟨rfl, hk⟩
    clear xs0 xsz0 xs1 xsz1 xs2 xsz2 xs3 xsz3 xs4 xsz4 xs5 xsz5 xo0 xoz0 xo1 xoz1 xo2 xoz2 xo3 xoz3 xo4 xoz4 xo5 xoz5 xa0 xaz0 xa1 xaz1 xa2 xaz2 xa3 xaz3 xa4 xaz4 xa5 xaz5
    replace hB := below_seq hB hk
    replace xs := xs.seq hk
    replace xo := xo.seq hk
    replace xa := xa.seq hk
    clear hk
    obtain ⟨xs0, xsz0, xs1, xsz1, xs2, xsz2, xs3, xsz3, xs4, xsz4, xs5, xsz5⟩ := xs.f6
    obtain ⟨xo0, xoz0, xo1, xoz1, xo2, xoz2, xo3, xoz3, xo4, xoz4, xo5, xoz5⟩ := xo.f6
    obtain ⟨xa0, xaz0, xa1, xaz1, xa2, xaz2, xa3, xaz3, xa4, xaz4, xa5, xaz5⟩ := xa.f6
    try go_wp2_with fail
    clear xs0 xsz0 xs1 xsz1 xs2 xsz2 xs3 xsz3 xs4 xsz4 xs5 xsz5 xo0 xoz0 xo1 xoz1 xo2 xoz2 xo3 xoz3 xo4 xoz4 xo5 xoz5 xa0 xaz0 xa1 xaz1 xa2 xaz2 xa3 xaz3 xa4 xaz4 xa5 xaz5
    clear hHeld
    refine hK.out _ _ ?_ (fun hHeld => ?_)
    · exact ⟨xs.cell 0 rfl, xs.cell 1 rfl, xs.cell 2 rfl, xs.cell 3 rfl, xs.cell 4 rfl, xs.cell 5 rfl, xo.cell 0 rfl, xo.cell 1 rfl, xo.cell 2 rfl, xo.cell 3 rfl, xo.cell 4 rfl, xo.cell 5 rfl, xa.cell 0 rfl, xa.cell 1 rfl, xa.cell 2 rfl, xa.cell 3 rfl, xa.cell 4 rfl, xa.cell 5 rfl⟩
    clear hK K
    try simp only [Act.put, l1, l2, l3, l4, l5, l6]
    refine tk 19 (v := ?_) rfl (Or.inl ⟨by rfl, ?_⟩) ?_; rotate_left
    · intro w hSw; (try dsimp only at hSw); go_simp; try with_reducible rfl
    try simp only [Act.put, l1, l2, l3, l4, l5, l6]
    refine tk 23 (v := ?_) rfl (Or.inl ⟨by rfl, ?_⟩) ?_; rotate_left
    · intro w hSw; (try dsimp only at hSw); go_simp; try with_reducible rfl
    try simp only [Act.put, l1, l2, l3, l4, l5, l6]
    refine tk 24 (v := ?_) rfl (Or.inl ⟨by rfl, ?_⟩) ?_; rotate_left
    · intro w hSw; (try dsimp only at hSw); go_simp; try with_reducible rfl
    try simp only [Act.put, l1, l2, l3, l4, l5, l6]
    refine tk 25 (v := ?_) rfl (Or.inl ⟨by rfl, ?_⟩) ?_; rotate_left
    · intro w hSw; (try dsimp only at hSw); go_simp; try with_reducible rfl
    try simp only [Act.put, l1, l2, l3, l4, l5, l6]
    refine wpAnyH_done (by kernel_rfl) ?_ _
    clear hHeld
    obtain ⟨xs0, xsz0, xs1, xsz1, xs2, xsz2, xs3, xsz3, xs4, xsz4, xs5, xsz5⟩ := xs.f6
    obtain ⟨xo0, xoz0, xo1, xoz1, xo2, xoz2, xo3, xoz3, xo4, xoz4, xo5, xoz5⟩ := xo.f6
    obtain ⟨xa0, xaz0, xa1, xaz1, xa2, xaz2, xa3, xaz3, xa4, xaz4, xa5, xaz5⟩ := xa.f6
    go_wp2
    go_ret
    exact ⟨rfl, hB⟩
  · skip
    have e1 : ((si : Int) == 4) = false := beq_eq_false_iff_ne.2 (fun h => hz (f6.1 (by omega)))
    have e2 : ((i : Int) == 0) = false := beq_eq_false_iff_ne.2 (by omega)
    clear f6 hz
    have hB : Below W.heap.size W (W.alloc (.cells #[.int .i64 m, .bool b1, .bool b2, .int .i64 la, .int .i64 lo, .int .i64 (i : Int)] 23)) := ((Below.refl _ _).alloc (Nat.le_refl _) _)
    have xs := (Box.new 23 W [.int .i64 m, .bool b1, .bool b2, .int .i64 la, .int .i64 lo, .int .i64 (i : Int)])
    go_enter Try.func6, Try.ntmps6
    obtain ⟨xs0, xsz0, xs1, xsz1, xs2, xsz2, xs3, xsz3, xs4, xsz4, xs5, xsz5⟩ := xs.f6
    go_wp2_with fail
    refine (shown14 _).mono ?_
    rintro e V1 ⟨rfl, hk⟩
    clear xs0 xsz0 xs1 xsz1 xs2 xsz2 xs3 xsz3 xs4 xsz4 xs5 xsz5
    replace hB := below_seq hB hk
    replace xs := xs.seq hk
    clear hk
    obtain ⟨xs0, xsz0, xs1, xsz1, xs2, xsz2, xs3, xsz3, xs4, xsz4, xs5, xsz5⟩ := xs.f6
    clear xs0 xsz0 xs1 xsz1 xs2 xsz2 xs3 xsz3 xs4 xsz4 xs5 xsz5
    have xsC0 := xs.cell 0 rfl
    have xsA0 := fun o : Obj => (xs.alloc o).cell 0 rfl
    have xsB0 := fun o p : Obj => ((xs.alloc o).alloc p).cell 0 rfl
    have xsC1 := xs.cell 1 rfl
    have xsA1 := fun o : Obj => (xs.alloc o).cell 1 rfl
    have xsB1 := fun o p : Obj => ((xs.alloc o).alloc p).cell 1 rfl
    have xsC2 := xs.cell 2 rfl
    have xsA2 := fun o : Obj => (xs.alloc o).cell 2 rfl
    have xsB2 := fun o p : Obj => ((xs.alloc o).alloc p).cell 2 rfl
    have xsC3 := xs.cell 3 rfl
    have xsA3 := fun o : Obj => (xs.alloc o).cell 3 rfl
    have xsB3 := fun o p : Obj => ((xs.alloc o).alloc p).cell 3 rfl
    have xsC4 := xs.cell 4 rfl
    have xsA4 := fun o : Obj => (xs.alloc o).cell 4 rfl
    have xsB4 := fun o p : Obj => ((xs.alloc o).alloc p).cell 4 rfl
    have xsC5 := xs.cell 5 rfl
    have xsA5 := fun o : Obj => (xs.alloc o).cell 5 rfl
    have xsB5 := fun o p : Obj => ((xs.alloc o).alloc p).cell 5 rfl
    go_wp2_with fail
    clear xsC0 xsA0 xsB0 xsC1 xsA1 xsB1 xsC2 xsA2 xsB2 xsC3 xsA3 xsB3 xsC4 xsA4 xsB4 xsC5 xsA5 xsB5
    have xo := Box.new 23 V1 [.int .i64 m, .bool b1, .bool b2, .int .i64 la, .int .i64 lo, .int .i64 r]
    have ne_xo_xs : V1.heap.size ≠ W.heap.size := Nat.ne_of_gt xs.lt
    have le_xo : W.heap.size ≤ V1.heap.size := hB.size
    replace xs := xs.alloc (.cells #[.int .i64 m, .bool b1, .bool b2, .int .i64 la, .int .i64 lo, .int .i64 r] 23)
    replace hB := hB.alloc hB.size (.cells #[.int .i64 m, .bool b1, .bool b2, .int .i64 la, .int .i64 lo, .int .i64 r] 23)
    obtain ⟨xs0, xsz0, xs1, xsz1, xs2, xsz2, xs3, xsz3, xs4, xsz4, xs5, xsz5⟩ := xs.f6
    obtain ⟨xo0, xoz0, xo1, xoz1, xo2, xoz2, xo3, xoz3, xo4, xoz4, xo5, xoz5⟩ := xo.f6
    clear xs0 xsz0 xs1 xsz1 xs2 xsz2 xs3 xsz3 xs4 xsz4 xs5 xsz5 xo0 xoz0 xo1 xoz1 xo2 xoz2 xo3 xoz3 xo4 xoz4 xo5 xoz5
    have xa : Box 23 ((V1.alloc (.cells #[.int .i64 m, .bool b1, .bool b2, .int .i64 la, .int .i64 lo, .int .i64 r] 23)).alloc (.cells #[.int .i64 m, .bool b1, .bool b2, .int .i64 la, .int .i64 lo, .int .i64 a] 23)) (V1.heap.size + 1) [.int .i64 m, .bool b1, .bool b2, .int .i64 la, .int .i64 lo, .int .i64 a] := by have h := Box.new 23 (V1.alloc (.cells #[.int .i64 m, .bool b1, .bool b2, .int .i64 la, .int .i64 lo, .int .i64 r] 23)) [.int .i64 m, .bool b1, .bool b2, .int .i64 la, .int .i64 lo, .int .i64 a]; rwa [World.size_alloc] at h
    have ne_xa_xs : V1.heap.size + 1 ≠ W.heap.size := by have h := xs.lt; rw [World.size_alloc] at h; omega
    have ne_xa_xo : V1.heap.size + 1 ≠ V1.heap.size := by have h := xo.lt; rw [World.size_alloc] at h; omega
    have le_xa : W.heap.size ≤ V1.heap.size + 1 := by have h := hB.size; rw [World.size_alloc] at h; exact h
    replace xs := xs.alloc (.cells #[.int .i64 m, .bool b1, .bool b2, .int .i64 la, .int .i64 lo, .int .i64 a] 23)
    replace xo := xo.alloc (.cells #[.int .i64 m, .bool b1, .bool b2, .int .i64 la, .int .i64 lo, .int .i64 a] 23)
    replace hB := hB.alloc hB.size (.cells #[.int .i64 m, .bool b1, .bool b2, .int .i64 la, .int .i64 lo, .int .i64 a] 23)
    obtain ⟨xs0, xsz0, xs1, xsz1, xs2, xsz2, xs3, xsz3, xs4, xsz4, xs5, xsz5⟩ := xs.f6
    obtain ⟨xo0, xoz0, xo1, xoz1, xo2, xoz2, xo3, xoz3, xo4, xoz4, xo5, xoz5⟩ := xo.f6
    obtain ⟨xa0, xaz0, xa1, xaz1, xa2, xaz2, xa3, xaz3, xa4, xaz4, xa5, xaz5⟩ := xa.f6
    generalize ((V1.alloc (.cells #[.int .i64 m, .bool b1, .bool b2, .int .i64 la, .int .i64 lo, .int .i64 r] 23)).alloc (.cells #[.int .i64 m, .bool b1, .bool b2, .int .i64 la, .int .i64 lo, .int .i64 a] 23)) = V2 at *
    clear xs0 xsz0 xs1 xsz1 xs2 xsz2 xs3 xsz3 xs4 xsz4 xs5 xsz5 xo0 xoz0 xo1 xoz1 xo2 xoz2 xo3 xoz3 xo4 xoz4 xo5 xoz5 xa0 xaz0 xa1 xaz1 xa2 xaz2 xa3 xaz3 xa4 xaz4 xa5 xaz5
    replace hB := hB.drew
    replace xs := xs.drew
    replace xo := xo.drew
    replace xa := xa.drew
    refine wp_region_held_drew (S := fun w' => w'.cell? ⟨W.heap.size, 0, none⟩ = some (.int .i64 m) ∧ w'.cell? ⟨W.heap.size, 1, none⟩ = some (.bool b1) ∧ w'.cell? ⟨W.heap.size, 2, none⟩ = some (.bool b2) ∧ w'.cell? ⟨W.heap.size, 3, none⟩ = some (.int .i64 la) ∧ w'.cell? ⟨W.heap.size, 4, none⟩ = some (.int .i64 lo) ∧ w'.cell? ⟨W.heap.size, 5, none⟩ = some (.int .i64 (i : Int)) ∧ w'.cell? ⟨V1.heap.size, 0, none⟩ = some (.int .i64 m) ∧ w'.cell? ⟨V1.heap.size, 1, none⟩ = some (.bool b1) ∧ w'.cell? ⟨V1.heap.size, 2, none⟩ = some (.bool b2) ∧ w'.cell? ⟨V1.heap.size, 3, none⟩ = some (.int .i64 la) ∧ w'.cell? ⟨V1.heap.size, 4, none⟩ = some (.int .i64 lo) ∧ w'.cell? ⟨V1.heap.size, 5, none⟩ = some (.int .i64 r) ∧ w'.cell? ⟨V1.heap.size + 1, 0, none⟩ = some (.int .i64 m) ∧ w'.cell? ⟨V1.heap.size + 1, 1, none⟩ = some (.bool b1) ∧ w'.cell? ⟨V1.heap.size + 1, 2, none⟩ = some (.bool b2) ∧ w'.cell? ⟨V1.heap.size + 1, 3, none⟩ = some (.int .i64 la) ∧ w'.cell? ⟨V1.heap.size + 1, 4, none⟩ = some (.int .i64 lo) ∧ w'.cell? ⟨V1.heap.size + 1, 5, none⟩ = some (.int .i64 a)) (by kernel_rfl) ?_ (fun hHeld => ?_)
    · exact ⟨xs.cell 0 rfl, xs.cell 1 rfl, xs.cell 2 rfl, xs.cell 3 rfl, xs.cell 4 rfl, xs.cell 5 rfl, xo.cell 0 rfl, xo.cell 1 rfl, xo.cell 2 rfl, xo.cell 3 rfl, xo.cell 4 rfl, xo.cell 5 rfl, xa.cell 0 rfl, xa.cell 1 rfl, xa.cell 2 rfl, xa.cell 3 rfl, xa.cell 4 rfl, xa.cell 5 rfl⟩
    generalize V2.drew = V3 at *
    refine tk 0 (v := ?_) rfl (Or.inl ⟨by rfl, ?_⟩) ?_; rotate_left
    · intro w hSw; (try dsimp only at hSw); go_simp; try with_reducible rfl
    try simp only [Act.put, l1, l2, l3, l4, l5, l6]
    refine tk 2 (v := ?_) rfl (Or.inl ⟨by rfl, ?_⟩) ?_; rotate_left
    · intro w hSw; (try dsimp only at hSw); go_simp; try with_reducible rfl
    try simp only [Act.put, l1, l2, l3, l4, l5, l6]
    refine wpAnyH_ready (rs := [1]) (by kernel_rfl) (by simp) ?_
    refine AllReadyH.cons rfl (fun K hK => ?_) AllReadyH.nil
    obtain ⟨xs0, xsz0, xs1, xsz1, xs2, xsz2, xs3, xsz3, xs4, xsz4, xs5, xsz5⟩ := xs.f6
    obtain ⟨xo0, xoz0, xo1, xoz1, xo2, xoz2, xo3, xoz3, xo4, xoz4, xo5, xoz5⟩ := xo.f6
    obtain ⟨xa0, xaz0, xa1, xaz1, xa2, xaz2, xa3, xaz3, xa4, xaz4, xa5, xaz5⟩ := xa.f6
    go_simp
    refine (TA.out _).mono ?_
    rintro e V4 ⟨rfl, hk⟩
    clear xs0 xsz0 xs1 xsz1 xs2 xsz2 xs3 xsz3 xs4 xsz4 xs5 xsz5 xo0 xoz0 xo1 xoz1 xo2 xoz2 xo3 xoz3 xo4 xoz4 xo5 xoz5 xa0 xaz0 xa1 xaz1 xa2 xaz2 xa3 xaz3 xa4 xaz4 xa5 xaz5
    replace hB := below_seq hB hk
    replace xs := xs.seq hk
    replace xo := xo.seq hk
    replace xa := xa.seq hk
    clear hk
    obtain ⟨xs0, xsz0, xs1, xsz1, xs2, xsz2, xs3, xsz3, xs4, xsz4, xs5, xsz5⟩ := xs.f6
    obtain ⟨xo0, xoz0, xo1, xoz1, xo2, xoz2, xo3, xoz3, xo4, xoz4, xo5, xoz5⟩ := xo.f6
    obtain ⟨xa0, xaz0, xa1, xaz1, xa2, xaz2, xa3, xaz3, xa4, xaz4, xa5, xaz5⟩ := xa.f6
    try go_wp2_with fail
    clear xs0 xsz0 xs1 xsz1 xs2 xsz2 xs3 xsz3 xs4 xsz4 xs5 xsz5 xo0 xoz0 xo1 xoz1 xo2 xoz2 xo3 xoz3 xo4 xoz4 xo5 xoz5 xa0 xaz0 xa1 xaz1 xa2 xaz2 xa3 xaz3 xa4 xaz4 xa5 xaz5
    clear hHeld
    refine hK.out _ _ ?_ (fun hHeld => ?_)
    · exact ⟨xs.cell 0 rfl, xs.cell 1 rfl, xs.cell 2 rfl, xs.cell 3 rfl, xs.cell 4 rfl, xs.cell 5 rfl, xo.cell 0 rfl, xo.cell 1 rfl, xo.cell 2 rfl, xo.cell 3 rfl, xo.cell 4 rfl, xo.cell 5 rfl, xa.cell 0 rfl, xa.cell 1 rfl, xa.cell 2 rfl, xa.cell 3 rfl, xa.cell 4 rfl, xa.cell 5 rfl⟩
    clear hK K
    try simp only [Act.put, l1, l2, l3, l4, l5, l6]
    refine wpAnyH_ready (rs := [3]) (by kernel_rfl) (by simp) ?_
    refine AllReadyH.cons rfl (fun K hK => ?_) AllReadyH.nil
    obtain ⟨xs0, xsz0, xs1, xsz1, xs2, xsz2, xs3, xsz3, xs4, xsz4, xs5, xsz5⟩ := xs.f6
    obtain ⟨xo0, xoz0, xo1, xoz1, xo2, xoz2, xo3, xoz3, xo4, xoz4, xo5, xoz5⟩ := xo.f6
    obtain ⟨xa0, xaz0, xa1, xaz1, xa2, xaz2, xa3, xaz3, xa4, xaz4, xa5, xaz5⟩ := xa.f6
    go_simp
    refine (TO.out _).mono ?_
    rintro e V5 ⟨rfl, hk⟩
    clear xs0 xsz0 xs1 xsz1 xs2 xsz2 xs3 xsz3 xs4 xsz4 xs5 xsz5 xo0 xoz0 xo1 xoz1 xo2 xoz2 xo3 xoz3 xo4 xoz4 xo5 xoz5 xa0 xaz0 xa1 xaz1 xa2 xaz2 xa3 xaz3 xa4 xaz4 xa5 xaz5
    replace hB := below_seq hB hk
    replace xs := xs.seq hk
    replace xo := xo.seq hk
    replace xa := xa.seq hk
    clear hk
    obtain ⟨xs0, xsz0, xs1, xsz1, xs2, xsz2, xs3, xsz3, xs4, xsz4, xs5, xsz5⟩ := xs.f6
    obtain ⟨xo0, xoz0, xo1, xoz1, xo2, xoz2, xo3, xoz3, xo4, xoz4, xo5, xoz5⟩ := xo.f6
    obtain ⟨xa0, xaz0, xa1, xaz1, xa2, xaz2, xa3, xaz3, xa4, xaz4, xa5, xaz5⟩ := xa.f6
    try go_wp2_with fail
    clear xs0 xsz0 xs1 xsz1 xs2 xsz2 xs3 xsz3 xs4 xsz4 xs5 xsz5 xo0 xoz0 xo1 xoz1 xo2 xoz2 xo3 xoz3 xo4 xoz4 xo5 xoz5 xa0 xaz0 xa1 xaz1 xa2 xaz2 xa3 xaz3 xa4 xaz4 xa5 xaz5
    clear hHeld
    refine hK.out _ _ ?_ (fun hHeld => ?_)
    · exact ⟨xs.cell 0 rfl, xs.cell 1 rfl, xs.cell 2 rfl, xs.cell 3 rfl, xs.cell 4 rfl, xs.cell 5 rfl, xo.cell 0 rfl, xo.cell 1 rfl, xo.cell 2 rfl, xo.cell 3 rfl, xo.cell 4 rfl, xo.cell 5 rfl, xa.cell 0 rfl, xa.cell 1 rfl, xa.cell 2 rfl, xa.cell 3 rfl, xa.cell 4 rfl, xa.cell 5 rfl⟩
    clear hK K
    try simp only [Act.put, l1, l2, l3, l4, l5, l6]
    refine tk 4 (v := ?_) rfl (Or.inl ⟨by rfl, ?_⟩) ?_; rotate_left
    · intro w hSw; (try dsimp only at hSw); go_simp; try with_reducible rfl
    try simp only [Act.put, l1, l2, l3, l4, l5, l6]
    refine tk 5 (v := ?_) rfl (Or.inl ⟨by rfl, ?_⟩) ?_; rotate_left
    · intro w hSw; (try dsimp only at hSw); go_simp; try with_reducible rfl
    try simp only [Act.put, l1, l2, l3, l4, l5, l6]
    refine tk 6 (v := ?_) rfl (Or.inl ⟨by rfl, ?_⟩) ?_; rotate_left
    · intro w hSw; (try dsimp only at hSw); go_simp; try with_reducible rfl
    try simp only [Act.put, l1, l2, l3, l4, l5, l6]
    refine tk 7 (v := ?_) rfl (Or.inl ⟨by rfl, ?_⟩) ?_; rotate_left
    · intro w hSw; (try dsimp only at hSw); go_simp; try with_reducible rfl
    try simp only [Act.put, l1, l2, l3, l4, l5, l6]
    refine wpAnyH_ready (rs := [8]) (by kernel_rfl) (by simp) ?_
    refine AllReadyH.cons rfl (fun K hK => ?_) AllReadyH.nil
    obtain ⟨xs0, xsz0, xs1, xsz1, xs2, xsz2, xs3, xsz3, xs4, xsz4, xs5, xsz5⟩ := xs.f6
    obtain ⟨xo0, xoz0, xo1, xoz1, xo2, xoz2, xo3, xoz3, xo4, xoz4, xo5, xoz5⟩ := xo.f6
    obtain ⟨xa0, xaz0, xa1, xaz1, xa2, xaz2, xa3, xaz3, xa4, xaz4, xa5, xaz5⟩ := xa.f6
    go_simp
    refine (TS.out _).mono ?_
    rintro e V6 ⟨rfl, hk⟩
    clear xs0 xsz0 xs1 xsz1 xs2 xsz2 xs3 xsz3 xs4 xsz4 xs5 xsz5 xo0 xoz0 xo1 xoz1 xo2 xoz2 xo3 xoz3 xo4 xoz4 xo5 xoz5 xa0 xaz0 xa1 xaz1 xa2 xaz2 xa3 xaz3 xa4 xaz4 xa5 xaz5
    replace hB := below_seq hB hk
    replace xs := xs.seq hk
    replace xo := xo.seq hk
    replace xa := xa.seq hk
    clear hk
    obtain ⟨xs0, xsz0, xs1, xsz1, xs2, xsz2, xs3, xsz3, xs4, xsz4, xs5, xsz5⟩ := xs.f6
    obtain ⟨xo0, xoz0, xo1, xoz1, xo2, xoz2, xo3, xoz3, xo4, xoz4, xo5, xoz5⟩ := xo.f6
    obtain ⟨xa0, xaz0, xa1, xaz1, xa2, xaz2, xa3, xaz3, xa4, xaz4, xa5, xaz5⟩ := xa.f6
    try go_wp2_with fail
    clear xs0 xsz0 xs1 xsz1 xs2 xsz2 xs3 xsz3 xs4 xsz4 xs5 xsz5 xo0 xoz0 xo1 xoz1 xo2 xoz2 xo3 xoz3 xo4 xoz4 xo5 xoz5 xa0 xaz0 xa1 xaz1 xa2 xaz2 xa3 xaz3 xa4 xaz4 xa5 xaz5
    clear hHeld
    refine hK.out _ _ ?_ (fun hHeld => ?_)
    · exact ⟨xs.cell 0 rfl, xs.cell 1 rfl, xs.cell 2 rfl, xs.cell 3 rfl, xs.cell 4 rfl, xs.cell 5 rfl, xo.cell 0 rfl, xo.cell 1 rfl, xo.cell 2 rfl, xo.cell 3 rfl, xo.cell 4 rfl, xo.cell 5 rfl, xa.cell 0 rfl, xa.cell 1 rfl, xa.cell 2 rfl, xa.cell 3 rfl, xa.cell 4 rfl, xa.cell 5 rfl⟩
    clear hK K
    try simp only [Act.put, l1, l2, l3, l4, l5, l6]
    refine tk 9 (v := ?_) rfl (Or.inl ⟨by rfl, ?_⟩) ?_; rotate_left
    · intro w hSw; (try dsimp only at hSw); go_simp; try with_reducible rfl
    try simp only [Act.put, l1, l2, l3, l4, l5, l6]
    refine tk 10 (v := ?_) rfl (Or.inl ⟨by rfl, ?_⟩) ?_; rotate_left
    · intro w hSw; (try dsimp only at hSw); go_simp; try with_reducible rfl
    try simp only [Act.put, l1, l2, l3, l4, l5, l6]
    refine tk 11 (v := ?_) rfl (Or.inl ⟨by rfl, ?_⟩) ?_; rotate_left
    · intro w hSw; (try dsimp only at hSw); go_simp; try with_reducible rfl
    try simp only [Act.put, l1, l2, l3, l4, l5, l6]
    refine tk 12 (v := ?_) rfl (Or.inl ⟨by rfl, ?_⟩) ?_; rotate_left
    · intro w hSw; (try dsimp only at hSw); go_simp; try with_reducible rfl
    try simp only [Act.put, l1, l2, l3, l4, l5, l6]
    refine wpAnyH_ready (rs := [13]) (by kernel_rfl) (by simp) ?_
    refine AllReadyH.cons rfl (fun K hK => ?_) AllReadyH.nil
    obtain ⟨xs0, xsz0, xs1, xsz1, xs2, xsz2, xs3, xsz3, xs4, xsz4, xs5, xsz5⟩ := xs.f6
    obtain ⟨xo0, xoz0, xo1, xoz1, xo2, xoz2, xo3, xoz3, xo4, xoz4, xo5, xoz5⟩ := xo.f6
    obtain ⟨xa0, xaz0, xa1, xaz1, xa2, xaz2, xa3, xaz3, xa4, xaz4, xa5, xaz5⟩ := xa.f6
    go_simp
    refine (TS.out _).mono ?_
    rintro e V7 ⟨rfl, hk⟩
    clear xs0 xsz0 xs1 xsz1 xs2 xsz2 xs3 xsz3 xs4 xsz4 xs5 xsz5 xo0 xoz0 xo1 xoz1 xo2 xoz2 xo3 xoz3 xo4 xoz4 xo5 xoz5 xa0 xaz0 xa1 xaz1 xa2 xaz2 xa3 xaz3 xa4 xaz4 xa5 xaz5
    replace hB := below_seq hB hk
    replace xs := xs.seq hk
    replace xo := xo.seq hk
    replace xa := xa.seq hk
    clear hk
    obtain ⟨xs0, xsz0, xs1, xsz1, xs2, xsz2, xs3, xsz3, xs4, xsz4, xs5, xsz5⟩ := xs.f6
    obtain ⟨xo0, xoz0, xo1, xoz1, xo2, xoz2, xo3, xoz3, xo4, xoz4, xo5, xoz5⟩ := xo.f6
    obtain ⟨xa0, xaz0, xa1, xaz1, xa2, xaz2, xa3, xaz3, xa4, xaz4, xa5, xaz5⟩ := xa.f6
    try go_wp2_with fail
    clear xs0 xsz0 xs1 xsz1 xs2 xsz2 xs3 xsz3 xs4 xsz4 xs5 xsz5 xo0 xoz0 xo1 xoz1 xo2 xoz2 xo3 xoz3 xo4 xoz4 xo5 xoz5 xa0 xaz0 xa1 xaz1 xa2 xaz2 xa3 xaz3 xa4 xaz4 xa5 xaz5
    clear hHeld
    refine hK.out _ _ ?_ (fun hHeld => ?_)
    · exact ⟨xs.cell 0 rfl, xs.cell 1 rfl, xs.cell 2 rfl, xs.cell 3 rfl, xs.cell 4 rfl, xs.cell 5 rfl, xo.cell 0 rfl, xo.cell 1 rfl, xo.cell 2 rfl, xo.cell 3 rfl, xo.cell 4 rfl, xo.cell 5 rfl, xa.cell 0 rfl, xa.cell 1 rfl, xa.cell 2 rfl, xa.cell 3 rfl, xa.cell 4 rfl, xa.cell 5 rfl⟩
    clear hK K
    try simp only [Act.put, l1, l2, l3, l4, l5, l6]
    refine tk 14 (v := ?_) rfl (Or.inl ⟨by rfl, ?_⟩) ?_; rotate_left
    · intro w hSw; (try dsimp only at hSw); go_simp; try with_reducible rfl
    try simp only [Act.put, l1, l2, l3, l4, l5, l6]
    refine tk 15 (v := ?_) rfl (Or.inl ⟨by rfl, ?_⟩) ?_; rotate_left
    · intro w hSw; (try dsimp only at hSw); go_simp; try with_reducible rfl
    try simp only [Act.put, l1, l2, l3, l4, l5, l6]
    refine tk 16 (v := ?_) rfl (Or.inl ⟨by rfl, ?_⟩) ?_; rotate_left
    · intro w hSw; (try dsimp only at hSw); go_simp; try with_reducible rfl
    try simp only [Act.put, l1, l2, l3, l4, l5, l6]
    refine tk 17 (v := ?_) rfl (Or.inl ⟨by rfl, ?_⟩) ?_; rotate_left
    · intro w hSw; (try dsimp only at hSw); go_simp; try with_reducible rfl
    try simp only [Act.put, l1, l2, l3, l4, l5, l6]
    refine tk 20 (v := ?_) rfl (Or.inl ⟨by rfl, ?_⟩) ?_; rotate_left
    · intro w hSw; (try dsimp only at hSw); go_simp; try with_reducible rfl
    try simp only [Act.put, l1, l2, l3, l4, l5, l6]
    refine tk 21 (v := ?_) rfl (Or.inl ⟨by rfl, ?_⟩) ?_; rotate_left
    · intro w hSw; (try dsimp only at hSw); go_simp; try with_reducible rfl
    try simp only [Act.put, l1, l2, l3, l4, l5, l6]
    refine tk 22 (v := ?_) rfl (Or.inl ⟨by rfl, ?_⟩) ?_; rotate_left
    · intro w hSw; (try dsimp only at hSw); go_simp; try with_reducible rfl
    try simp only [Act.put, l1, l2, l3, l4, l5, l6]
    refine wpAnyH_ready (rs := [18]) (by kernel_rfl) (by simp) ?_
    refine AllReadyH.cons rfl (fun K hK => ?_) AllReadyH.nil
    obtain ⟨xs0, xsz0, xs1, xsz1, xs2, xsz2, xs3, xsz3, xs4, xsz4, xs5, xsz5⟩ := xs.f6
    obtain ⟨xo0, xoz0, xo1, xoz1, xo2, xoz2, xo3, xoz3, xo4, xoz4, xo5, xoz5⟩ := xo.f6
    obtain ⟨xa0, xaz0, xa1, xaz1, xa2, xaz2, xa3, xaz3, xa4, xaz4, xa5, xaz5⟩ := xa.f6
    go_simp
    refine (TS.out _).mono ?_
    rintro e V8 ⟨rfl, hk⟩
    clear xs0 xsz0 xs1 xsz1 xs2 xsz2 xs3 xsz3 xs4 xsz4 xs5 xsz5 xo0 xoz0 xo1 xoz1 xo2 xoz2 xo3 xoz3 xo4 xoz4 xo5 xoz5 xa0 xaz0 xa1 xaz1 xa2 xaz2 xa3 xaz3 xa4 xaz4 xa5 xaz5
    replace hB := below_seq hB hk
    replace xs := xs.seq hk
    replace xo := xo.seq hk
    replace xa := xa.seq hk
    clear hk
    obtain ⟨xs0, xsz0, xs1, xsz1, xs2, xsz2, xs3, xsz3, xs4, xsz4, xs5, xsz5⟩ := xs.f6
    obtain ⟨xo0, xoz0, xo1, xoz1, xo2, xoz2, xo3, xoz3, xo4, xoz4, xo5, xoz5⟩ := xo.f6
    obtain ⟨xa0, xaz0, xa1, xaz1, xa2, xaz2, xa3, xaz3, xa4, xaz4, xa5, xaz5⟩ := xa.f6
    try go_wp2_with fail
    clear xs0 xsz0 xs1 xsz1 xs2 xsz2 xs3 xsz3 xs4 xsz4 xs5 xsz5 xo0 xoz0 xo1 xoz1 xo2 xoz2 xo3 xoz3 xo4 xoz4 xo5 xoz5 xa0 xaz0 xa1 xaz1 xa2 xaz2 xa3 xaz3 xa4 xaz4 xa5 xaz5
    clear hHeld
    refine hK.out _ _ ?_ (fun hHeld => ?_)
    · exact ⟨xs.cell 0 rfl, xs.cell 1 rfl, xs.cell 2 rfl, xs.cell 3 rfl, xs.cell 4 rfl, xs.cell 5 rfl, xo.cell 0 rfl, xo.cell 1 rfl, xo.cell 2 rfl, xo.cell 3 rfl, xo.cell 4 rfl, xo.cell 5 rfl, xa.cell 0 rfl, xa.cell 1 rfl, xa.cell 2 rfl, xa.cell 3 rfl, xa.cell 4 rfl, xa.cell 5 rfl⟩
    clear hK K
    try simp only [Act.put, l1, l2, l3, l4, l5, l6]
    refine tk 19 (v := ?_) rfl (Or.inl ⟨by rfl, ?_⟩) ?_; rotate_left
    · intro w hSw; (try dsimp only at hSw); go_simp; try with_reducible rfl
    try simp only [Act.put, l1, l2, l3, l4, l5, l6]
    refine tk 23 (v := ?_) rfl (Or.inl ⟨by rfl, ?_⟩) ?_; rotate_left
    · intro w hSw; (try dsimp only at hSw); go_simp; try with_reducible rfl
    try simp only [Act.put, l1, l2, l3, l4, l5, l6]
    refine tk 24 (v := ?_) rfl (Or.inl ⟨by rfl, ?_⟩) ?_; rotate_left
    · intro w hSw; (try dsimp only at hSw); go_simp; try with_reducible rfl
    try simp only [Act.put, l1, l2, l3, l4, l5, l6]
    refine tk 25 (v := ?_) rfl (Or.inl ⟨by rfl, ?_⟩) ?_; rotate_left
    · intro w hSw; (try dsimp only at hSw); go_simp; try with_reducible rfl
    try simp only [Act.put, l1, l2, l3, l4, l5, l6]
    refine wpAnyH_done (by kernel_rfl) ?_ _
    clear hHeld
    obtain ⟨xs0, xsz0, xs1, xsz1, xs2, xsz2, xs3, xsz3, xs4, xsz4, xs5, xsz5⟩ := xs.f6
    obtain ⟨xo0, xoz0, xo1, xoz1, xo2, xoz2, xo3, xoz3, xo4, xoz4, xo5, xoz5⟩ := xo.f6
    obtain ⟨xa0, xaz0, xa1, xaz1, xa2, xaz2, xa3, xaz3, xa4, xaz4, xa5, xaz5⟩ := xa.f6
    go_wp2
    go_ret
    exact ⟨rfl, hB⟩


set_option maxRecDepth 100000 in
set_option maxHeartbeats 8000000 in
theorem walk (s : St) (k : UInt8) (W : World) (hs : s.ok) :
    Calls Try.prog 6 #[.agg #[.int .i64 s.mode, .bool s.armed, .bool s.home, .int .i64 s.lat, .int .i64 s.lon, .int .i64 s.iso], .int .u8 (k.toNat : Int)] W fun e W' => e = .returned (.bool true) ∧ Below W.heap.size W W' := by
  by_cases c1 : s.iso < 0
  · skip
    have hB : Below W.heap.size W (W.alloc (.cells #[.int .i64 s.mode, .bool s.armed, .bool s.home, .int .i64 s.lat, .int .i64 s.lon, .int .i64 s.iso] 23)) := ((Below.refl _ _).alloc (Nat.le_refl _) _)
    have xs := (Box.new 23 W [.int .i64 s.mode, .bool s.armed, .bool s.home, .int .i64 s.lat, .int .i64 s.lon, .int .i64 s.iso])
    go_enter Try.func6, Try.ntmps6
    obtain ⟨xs0, xsz0, xs1, xsz1, xs2, xsz2, xs3, xsz3, xs4, xsz4, xs5, xsz5⟩ := xs.f6
    go_wp2_with fail
    refine (shown14 _).mono ?_
    rintro e V1 ⟨rfl, hk⟩
    clear xs0 xsz0 xs1 xsz1 xs2 xsz2 xs3 xsz3 xs4 xsz4 xs5 xsz5
    replace hB := below_seq hB hk
    replace xs := xs.seq hk
    clear hk
    obtain ⟨xs0, xsz0, xs1, xsz1, xs2, xsz2, xs3, xsz3, xs4, xsz4, xs5, xsz5⟩ := xs.f6
    go_wp2
    go_ret
    exact ⟨rfl, hB⟩
  · by_cases c2 : s.iso > 15
    · skip
      have hB : Below W.heap.size W (W.alloc (.cells #[.int .i64 s.mode, .bool s.armed, .bool s.home, .int .i64 s.lat, .int .i64 s.lon, .int .i64 s.iso] 23)) := ((Below.refl _ _).alloc (Nat.le_refl _) _)
      have xs := (Box.new 23 W [.int .i64 s.mode, .bool s.armed, .bool s.home, .int .i64 s.lat, .int .i64 s.lon, .int .i64 s.iso])
      go_enter Try.func6, Try.ntmps6
      obtain ⟨xs0, xsz0, xs1, xsz1, xs2, xsz2, xs3, xsz3, xs4, xsz4, xs5, xsz5⟩ := xs.f6
      go_wp2_with fail
      refine (shown14 _).mono ?_
      rintro e V1 ⟨rfl, hk⟩
      clear xs0 xsz0 xs1 xsz1 xs2 xsz2 xs3 xsz3 xs4 xsz4 xs5 xsz5
      replace hB := below_seq hB hk
      replace xs := xs.seq hk
      clear hk
      obtain ⟨xs0, xsz0, xs1, xsz1, xs2, xsz2, xs3, xsz3, xs4, xsz4, xs5, xsz5⟩ := xs.f6
      go_wp2
      go_ret
      exact ⟨rfl, hB⟩
    · skip
      obtain ⟨i, hi⟩ : ∃ i : Nat, s.iso = (i : Int) := ⟨s.iso.toNat, by omega⟩
      have hi16 : i < 16 := by omega
      have hj4 := Nat.mod_lt k.toNat (show 4 > 0 by decide)
      have hf := sound_bit i hi16 (k.toNat % 4) hj4
      have h1 := own14Sound ⟨s.mode, s.armed, s.home, s.lat, s.lon, bits .andNot .i64 (i : Int) ((2 ^ (k.toNat % 4) : Nat) : Int)⟩
      have h2 := own14Sound ⟨s.mode, s.armed, s.home, s.lat, s.lon, bits .or .i64 (i : Int) ((2 ^ (k.toNat % 4) : Nat) : Int)⟩
      have h3 := own14Sound ⟨s.mode, s.armed, s.home, s.lat, s.lon, (i : Int)⟩
      obtain ⟨n1, n2, n3, n4⟩ := hs
      rw [hi]
      exact soundIn s.mode s.armed s.home s.lat s.lon i k W hi16 (fun V => h1 V ⟨n1, n2, n3, ⟨by have := hf.2.1; simp only; omega, by have := hf.2.2.1; simp only; omega⟩⟩) (fun V => h2 V ⟨n1, n2, n3, ⟨by have := hf.2.2.2.1; simp only; omega, by have := hf.2.2.2.2.1; simp only; omega⟩⟩) (fun V => h3 V ⟨n1, n2, n3, ⟨by simp only; omega, by simp only; omega⟩⟩)

theorem own : ownKnob Try.prog.godebug = none := by kernel_rfl

set_option maxRecDepth 100000 in
theorem lifted (os : Os) (started : os.Started) (H : Type) (enc : TypeId × Value → H) :
    ReturnsInHanded {} Try.checked os 6 .any (Rows.stateSoundSpec.pre6 enc Try.prog Try.f6 Rows.stateSoundRow.domain false) (Rows.stateSoundSpec.post enc Try.prog Try.f6 false true false false) := by
  refine returnsInHanded_of_change (C := Try.checked) own started (by kernel_rfl) Try.func6
    (ChangeSpec.witness6 (enc := enc) (C := Try.checked) false ⟨#[], #[.agg #[.int .i64 0, .bool false, .bool false, .int .i64 0, .int .i64 0, .int .i64 0], .int .u8 0], []⟩ 8 (by kernel_rfl) (by kernel_rfl) (by kernel_rfl) (by kernel_rfl)) ?_
  intro W base args ds gs before hval hW _ _
  have hW' := hW
  obtain ⟨p, q, hA0, hV, rfl, hfz, hnd⟩ := hW
  have hA : DataW.TrodAll enc Try.prog W 0 (fun _ => true) true Try.f6.params.toList args.toList ds p := hA0
  rw [Try.params6] at hA hval
  obtain ⟨v0, vs0, d0, ds0, p0, q0, hargs, rfl, rfl, h0, r0⟩ := trodAll_cons hA
  obtain ⟨v1, vs1, d1, ds1, p1, q1, rfl, rfl, rfl, h1, r1⟩ := trodAll_cons r0
  obtain ⟨rfl, rfl, rfl⟩ := trodAll_nil r1
  obtain rfl : args = #[v0, v1] := by cases args; simp_all
  obtain ⟨rfl, rfl⟩ := trodVars_none hV
  have k0 := h0
  obtain ⟨s0, rfl, hs0⟩ := open_st (hval 0 23 v0 rfl rfl) h0
  obtain ⟨a1, rfl, rfl, rfl, w1⟩ := open_int Try.underlying5 (hval 1 5 v1 rfl rfl) h1
  obtain ⟨c1, rfl⟩ := int_u8 w1
  clear hA0
  simp only [List.append_nil] at hW'
  refine (walk s0 c1 W hs0).mono fun e W' ⟨he, hB⟩ => ?_
  subst he
  exact ⟨_, rfl, ⟨_, _, _, [], _, [], hW', trodAll_cons_mk (shut_bool Try.underlying4 _) trodAll_mk0, (trodAll_cons_mk (Below.trod Try.laidOut (by kernel_rfl) (of_decide_eq_true (by kernel_rfl)) k0 hB (fun x hx => by simpa using hW'.lt x (by simp [hx]))) (trodAll_cons_mk (shut_int Try.underlying5 w1) trodAll_mk0)), rfl, hB.frame _, fun h => by cases h⟩⟩

theorem holds : Rows.StateSoundSaid :=
  OpenClaim.holds_of_wide 6 Try.f6 rfl rfl rfl rfl rfl rfl rfl ⟨rfl, rfl, rfl, rfl, rfl⟩ rfl rfl rfl rfl rfl (by kernel_rfl) Try.func6 (by kernel_rfl)
    (of_decide_eq_true (by kernel_rfl)) (by unfold Func.isWrapper; first | (rw [if_pos (by decide +kernel)]; kernel_rfl) | (rw [if_neg (by decide +kernel)]; exact ⟨rfl, rfl⟩))
    (fun os started H enc _ => lifted os started H enc)
end Go.Proofs.Ytkdadjojahfmeaa.StateSound

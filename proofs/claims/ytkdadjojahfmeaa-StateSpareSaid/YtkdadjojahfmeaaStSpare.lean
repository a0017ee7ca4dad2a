/- A number that uses more bits than a state has, or a mode that there is not, is none (StateSpare); no condition. -/
import Derived.Test.YtkdadjojahfmeaaStateLaw
import Derived.Deep.RegionHeld3
import Derived.WalkLawsBesides
import Derived.WalkSpells
import Derived.IntWalk
import Derived.Lib.Hide
import Derived.Test.YtkdadjojahfmeaaBox
import Derived.ProofKit
import Derived.OpenShut
import Derived.ChangeMaps5
import Derived.Test.YtkdadjojahfmeaaInts
namespace Go.Proofs.Ytkdadjojahfmeaa.StateSpare
open Go.ChangeShapes Go.WideShapes Go.ChangeAt Go.RowKit Go.ChangeMaps
set_option linter.unusedVariables false
set_option linter.unusedSimpArgs false
theorem spare_or {P : Nat} (hP : P < 2305843009213693952) {k : Nat} (h : k = 61 ∨ k = 62 ∨ k = 63 ∨ k = 52 ∨ k = 53 ∨ k = 54 ∨ k = 55) : P ||| 2 ^ k < 18446744073709551616 ∧ unpE (P ||| 2 ^ k) ≠ 0 := by
  have hk : k < 64 := by omega
  refine ⟨Nat.or_lt_two_pow (n := 64) (by omega) (Nat.pow_lt_pow_right (by decide) hk), fun e => ?_⟩
  have h1 := unp_lt e
  have h2 := (unp_iso e).1
  have h3 : 2 ^ k ≤ P ||| 2 ^ k := Nat.right_le_or
  have h4 : (P ||| 2 ^ k) / 2 ^ 48 % 2 ^ 8 = (P / 2 ^ 48 % 2 ^ 8) ||| (2 ^ k / 2 ^ 48 % 2 ^ 8) := by rw [Nat.or_div_two_pow, Nat.or_mod_two_pow]
  have h5 : 2 ^ k / 2 ^ 48 % 2 ^ 8 ≤ (P ||| 2 ^ k) / 2 ^ 48 % 2 ^ 8 := by rw [h4]; exact Nat.right_le_or
  rcases h with rfl | rfl | rfl | rfl | rfl | rfl | rfl <;> omega
theorem spare_mode (x : Nat) (hx : x < 18446744073709551616) {m : Nat} (h : m = 6 ∨ m = 7) : x ||| m * 72057594037927936 < 18446744073709551616 ∧ unpE (x ||| m * 72057594037927936) ≠ 0 := by
  refine ⟨Nat.or_lt_two_pow (n := 64) (by omega) (by omega), fun e => ?_⟩
  have h2 := (unp_iso e).2
  have h4 : (x ||| m * 72057594037927936) / 2 ^ 56 % 2 ^ 3 = (x / 2 ^ 56 % 2 ^ 3) ||| (m * 72057594037927936 / 2 ^ 56 % 2 ^ 3) := by rw [Nat.or_div_two_pow, Nat.or_mod_two_pow]
  have h5 : m * 72057594037927936 / 2 ^ 56 % 2 ^ 3 ≤ (x ||| m * 72057594037927936) / 2 ^ 56 % 2 ^ 3 := by rw [h4]; exact Nat.right_le_or
  rcases h with rfl | rfl <;> omega

set_option maxRecDepth 100000 in
set_option maxHeartbeats 4000000 in
theorem spareIn (a1 : Int) (a2 a3 : Bool) (a4 a5 a6 : Int) (bit mode : UInt8) (k md : Nat) (P : Nat) (W : World) (hP : P < 2305843009213693952) (hk : [61, 62, 63, 52, 53, 54, 55][bit.toNat % 7]? = some k) (hmd : mode.toNat % 2 = md) (TL : ∀ W : World, Gives Try.prog 11 #[.agg #[.int .i64 a1, .bool a2, .bool a3, .int .i64 a4, .int .i64 a5, .int .i64 a6]] W (.bool true)) (TP : ∀ W : World, Gives Try.prog 13 #[.agg #[.int .i64 a1, .bool a2, .bool a3, .int .i64 a4, .int .i64 a5, .int .i64 a6]] W (.int .u64 (P : Int))) :
    Gives Try.prog 7 #[.agg #[.int .i64 a1, .bool a2, .bool a3, .int .i64 a4, .int .i64 a5, .int .i64 a6], .int .u8 (bit.toNat : Int), .int .u8 (mode.toNat : Int)] W (.bool true) := by
  replace TL := Lib.hid TL
  replace TP := Lib.hid TP
  have hj7 := Nat.mod_lt bit.toNat (show 7 > 0 by decide)
  have hX : P &&& (18446744073709551615 - 504403158265495552) < 18446744073709551616 := Nat.lt_of_le_of_lt Nat.and_le_left (by omega)
  have hm2 := Nat.mod_lt mode.toNat (show 2 > 0 by decide)
  obtain ⟨x1, x2⟩ := spare_mode (P &&& (18446744073709551615 - 504403158265495552)) hX (m := (6 + mode.toNat % 2)) (by omega)
  obtain ⟨y1, y2⟩ := unp_none x2
  have T2 := fun (V : World) => own14Unpack ((P &&& (18446744073709551615 - 504403158265495552)) ||| (6 + mode.toNat % 2) * 72057594037927936) V x1
  simp only [y1, y2, St.zero] at T2
  have o2 : bits .or .u64 (bits .andNot .u64 (P : Int) 504403158265495552) ((6 + (mode.toNat : Int) % 2) * 72057594037927936) = ((((P &&& (18446744073709551615 - 504403158265495552)) ||| (6 + mode.toNat % 2) * 72057594037927936 : Nat)) : Int) := by
    have e1 := u64_andNot_nat P 504403158265495552 (by omega) (by decide)
    have e2 := u64_or_nat (P &&& (18446744073709551615 - 504403158265495552)) ((6 + mode.toNat % 2) * 72057594037927936) hX (by omega)
    have e3 : ((((6 + mode.toNat % 2) * 72057594037927936 : Nat)) : Int) = (6 + (mode.toNat : Int) % 2) * 72057594037927936 := by omega
    rw [e3] at e2
    exact (congrArg (fun z => bits .or .u64 z ((6 + (mode.toNat : Int) % 2) * 72057594037927936)) e1).trans e2
  generalize (P &&& (18446744073709551615 - 504403158265495552)) ||| (6 + mode.toNat % 2) * 72057594037927936 = B at *
  replace T2 := Lib.hid T2
  clear x1 x2 y1 y2 hX hm2 hmd
  by_cases hj0 : bit.toNat % 7 = 0
  · have hj := hj0
    clear hj0
    have hb : (wrap64 (bit.toNat : Int)).tmod 7 = 0 := by { rw [w64_u8, Int.tmod_eq_emod_of_nonneg (by omega)]; omega }
    obtain rfl : k = 61 := by { rw [hj] at hk; exact (Option.some.inj hk).symm }
    obtain ⟨x1, x2⟩ := spare_or hP (k := 61) (by decide)
    obtain ⟨y1, y2⟩ := unp_none x2
    have T1 := fun (V : World) => own14Unpack (P ||| 2 ^ 61) V x1
    simp only [y1, y2, St.zero] at T1
    have o1 : bits .or .u64 (P : Int) 2305843009213693952 = ((P ||| 2 ^ 61 : Nat) : Int) := u64_or_nat P 2305843009213693952 (by omega) (by decide)
    generalize P ||| 2 ^ 61 = A at *
    replace T1 := Lib.hid T1
    clear x1 x2 y1 y2 hj hk
    clear hP hj7
    have hB : Below W.heap.size W (W.alloc (.cells #[.int .i64 a1, .bool a2, .bool a3, .int .i64 a4, .int .i64 a5, .int .i64 a6] 23)) := ((Below.refl _ _).alloc (Nat.le_refl _) _)
    have xs := (Box.new 23 W [.int .i64 a1, .bool a2, .bool a3, .int .i64 a4, .int .i64 a5, .int .i64 a6])
    go_enter Try.func7, Try.ntmps7
    obtain ⟨xs0, xsz0, xs1, xsz1, xs2, xsz2, xs3, xsz3, xs4, xsz4, xs5, xsz5⟩ := xs.f6
    go_wp2_with fail
    refine (TL.out _).mono ?_
    rintro e V1 ⟨rfl, hk⟩
    clear xs0 xsz0 xs1 xsz1 xs2 xsz2 xs3 xsz3 xs4 xsz4 xs5 xsz5
    replace hB := below_seq hB hk
    replace xs := xs.seq hk
    clear hk
    obtain ⟨xs0, xsz0, xs1, xsz1, xs2, xsz2, xs3, xsz3, xs4, xsz4, xs5, xsz5⟩ := xs.f6
    go_wp2_with fail
    refine (shown14 _).mono ?_
    rintro e V2 ⟨rfl, hk⟩
    clear xs0 xsz0 xs1 xsz1 xs2 xsz2 xs3 xsz3 xs4 xsz4 xs5 xsz5
    replace hB := below_seq hB hk
    replace xs := xs.seq hk
    clear hk
    obtain ⟨xs0, xsz0, xs1, xsz1, xs2, xsz2, xs3, xsz3, xs4, xsz4, xs5, xsz5⟩ := xs.f6
    go_wp2_with fail
    refine (TP.out _).mono ?_
    rintro e V3 ⟨rfl, hk⟩
    clear xs0 xsz0 xs1 xsz1 xs2 xsz2 xs3 xsz3 xs4 xsz4 xs5 xsz5
    replace hB := below_seq hB hk
    replace xs := xs.seq hk
    clear hk
    obtain ⟨xs0, xsz0, xs1, xsz1, xs2, xsz2, xs3, xsz3, xs4, xsz4, xs5, xsz5⟩ := xs.f6
    go_wp2_with fail
    clear xs0 xsz0 xs1 xsz1 xs2 xsz2 xs3 xsz3 xs4 xsz4 xs5 xsz5
    have xk := Box.new 3 V3 [.int .i64 61, .int .i64 62, .int .i64 63, .int .i64 52, .int .i64 53, .int .i64 54, .int .i64 55]
    have ne_xk_xs : V3.heap.size ≠ W.heap.size := Nat.ne_of_gt xs.lt
    have le_xk : W.heap.size ≤ V3.heap.size := hB.size
    replace xs := xs.alloc (.cells #[.int .i64 61, .int .i64 62, .int .i64 63, .int .i64 52, .int .i64 53, .int .i64 54, .int .i64 55] 3)
    replace hB := hB.alloc hB.size (.cells #[.int .i64 61, .int .i64 62, .int .i64 63, .int .i64 52, .int .i64 53, .int .i64 54, .int .i64 55] 3)
    obtain ⟨xs0, xsz0, xs1, xsz1, xs2, xsz2, xs3, xsz3, xs4, xsz4, xs5, xsz5⟩ := xs.f6
    obtain ⟨xk0, xkz0, xk1, xkz1, xk2, xkz2, xk3, xkz3, xk4, xkz4, xk5, xkz5, xk6, xkz6⟩ := xk.f7
    refine (T1.out _).mono ?_
    rintro e V4 ⟨rfl, hk⟩
    clear xs0 xsz0 xs1 xsz1 xs2 xsz2 xs3 xsz3 xs4 xsz4 xs5 xsz5 xk0 xkz0 xk1 xkz1 xk2 xkz2 xk3 xkz3 xk4 xkz4 xk5 xkz5 xk6 xkz6
    replace hB := below_seq hB hk
    replace xs := xs.seq hk
    replace xk := xk.seq hk
    clear hk
    have xt := Box.new 23 V4 [.int .i64 0, .bool false, .bool false, .int .i64 0, .int .i64 0, .int .i64 0]
    have ne_xt_xs : V4.heap.size ≠ W.heap.size := Nat.ne_of_gt xs.lt
    have ne_xt_xk : V4.heap.size ≠ V3.heap.size := Nat.ne_of_gt xk.lt
    have le_xt : W.heap.size ≤ V4.heap.size := hB.size
    replace xs := xs.alloc (.cells #[.int .i64 0, .bool false, .bool false, .int .i64 0, .int .i64 0, .int .i64 0] 23)
    replace xk := xk.alloc (.cells #[.int .i64 0, .bool false, .bool false, .int .i64 0, .int .i64 0, .int .i64 0] 23)
    replace hB := hB.alloc hB.size (.cells #[.int .i64 0, .bool false, .bool false, .int .i64 0, .int .i64 0, .int .i64 0] 23)
    obtain ⟨xs0, xsz0, xs1, xsz1, xs2, xsz2, xs3, xsz3, xs4, xsz4, xs5, xsz5⟩ := xs.f6
    obtain ⟨xk0, xkz0, xk1, xkz1, xk2, xkz2, xk3, xkz3, xk4, xkz4, xk5, xkz5, xk6, xkz6⟩ := xk.f7
    obtain ⟨xt0, xtz0, xt1, xtz1, xt2, xtz2, xt3, xtz3, xt4, xtz4, xt5, xtz5⟩ := xt.f6
    go_wp2_with fail
    refine (T2.out _).mono ?_
    rintro e V5 ⟨rfl, hk⟩
    clear xs0 xsz0 xs1 xsz1 xs2 xsz2 xs3 xsz3 xs4 xsz4 xs5 xsz5 xk0 xkz0 xk1 xkz1 xk2 xkz2 xk3 xkz3 xk4 xkz4 xk5 xkz5 xk6 xkz6 xt0 xtz0 xt1 xtz1 xt2 xtz2 xt3 xtz3 xt4 xtz4 xt5 xtz5
    replace hB := below_seq hB hk
    replace xs := xs.seq hk
    replace xk := xk.seq hk
    replace xt := xt.seq hk
    clear hk
    have xu := Box.new 23 V5 [.int .i64 0, .bool false, .bool false, .int .i64 0, .int .i64 0, .int .i64 0]
    have ne_xu_xs : V5.heap.size ≠ W.heap.size := Nat.ne_of_gt xs.lt
    have ne_xu_xk : V5.heap.size ≠ V3.heap.size := Nat.ne_of_gt xk.lt
    have ne_xu_xt : V5.heap.size ≠ V4.heap.size := Nat.ne_of_gt xt.lt
    have le_xu : W.heap.size ≤ V5.heap.size := hB.size
    replace xs := xs.alloc (.cells #[.int .i64 0, .bool false, .bool false, .int .i64 0, .int .i64 0, .int .i64 0] 23)
    replace xk := xk.alloc (.cells #[.int .i64 0, .bool false, .bool false, .int .i64 0, .int .i64 0, .int .i64 0] 23)
    replace xt := xt.alloc (.cells #[.int .i64 0, .bool false, .bool false, .int .i64 0, .int .i64 0, .int .i64 0] 23)
    replace hB := hB.alloc hB.size (.cells #[.int .i64 0, .bool false, .bool false, .int .i64 0, .int .i64 0, .int .i64 0] 23)
    obtain ⟨xs0, xsz0, xs1, xsz1, xs2, xsz2, xs3, xsz3, xs4, xsz4, xs5, xsz5⟩ := xs.f6
    obtain ⟨xk0, xkz0, xk1, xkz1, xk2, xkz2, xk3, xkz3, xk4, xkz4, xk5, xkz5, xk6, xkz6⟩ := xk.f7
    obtain ⟨xt0, xtz0, xt1, xtz1, xt2, xtz2, xt3, xtz3, xt4, xtz4, xt5, xtz5⟩ := xt.f6
    obtain ⟨xu0, xuz0, xu1, xuz1, xu2, xuz2, xu3, xuz3, xu4, xuz4, xu5, xuz5⟩ := xu.f6
    go_wp2
    go_ret
    exact ⟨rfl, hB⟩
  · skip
    by_cases hj1 : bit.toNat % 7 = 1
    · have hj := hj1
      clear hj1
      have hb : (wrap64 (bit.toNat : Int)).tmod 7 = 1 := by { rw [w64_u8, Int.tmod_eq_emod_of_nonneg (by omega)]; omega }
      obtain rfl : k = 62 := by { rw [hj] at hk; exact (Option.some.inj hk).symm }
      obtain ⟨x1, x2⟩ := spare_or hP (k := 62) (by decide)
      obtain ⟨y1, y2⟩ := unp_none x2
      have T1 := fun (V : World) => own14Unpack (P ||| 2 ^ 62) V x1
      simp only [y1, y2, St.zero] at T1
      have o1 : bits .or .u64 (P : Int) 4611686018427387904 = ((P ||| 2 ^ 62 : Nat) : Int) := u64_or_nat P 4611686018427387904 (by omega) (by decide)
      generalize P ||| 2 ^ 62 = A at *
      replace T1 := Lib.hid T1
      clear x1 x2 y1 y2 hj hk
      clear hP hj7
      have hB : Below W.heap.size W (W.alloc (.cells #[.int .i64 a1, .bool a2, .bool a3, .int .i64 a4, .int .i64 a5, .int .i64 a6] 23)) := ((Below.refl _ _).alloc (Nat.le_refl _) _)
      have xs := (Box.new 23 W [.int .i64 a1, .bool a2, .bool a3, .int .i64 a4, .int .i64 a5, .int .i64 a6])
      go_enter Try.func7, Try.ntmps7
      obtain ⟨xs0, xsz0, xs1, xsz1, xs2, xsz2, xs3, xsz3, xs4, xsz4, xs5, xsz5⟩ := xs.f6
      go_wp2_with fail
      refine (TL.out _).mono ?_
      rintro e V1 ⟨rfl, hk⟩
      clear xs0 xsz0 xs1 xsz1 xs2 xsz2 xs3 xsz3 xs4 xsz4 xs5 xsz5
      replace hB := below_seq hB hk
      replace xs := xs.seq hk
      clear hk
      obtain ⟨xs0, xsz0, xs1, xsz1, xs2, xsz2, xs3, xsz3, xs4, xsz4, xs5, xsz5⟩ := xs.f6
      go_wp2_with fail
      refine (shown14 _).mono ?_
      rintro e V2 ⟨rfl, hk⟩
      clear xs0 xsz0 xs1 xsz1 xs2 xsz2 xs3 xsz3 xs4 xsz4 xs5 xsz5
      replace hB := below_seq hB hk
      replace xs := xs.seq hk
      clear hk
      obtain ⟨xs0, xsz0, xs1, xsz1, xs2, xsz2, xs3, xsz3, xs4, xsz4, xs5, xsz5⟩ := xs.f6
      go_wp2_with fail
      refine (TP.out _).mono ?_
      rintro e V3 ⟨rfl, hk⟩
      clear xs0 xsz0 xs1 xsz1 xs2 xsz2 xs3 xsz3 xs4 xsz4 xs5 xsz5
      replace hB := below_seq hB hk
      replace xs := xs.seq hk
      clear hk
      obtain ⟨xs0, xsz0, xs1, xsz1, xs2, xsz2, xs3, xsz3, xs4, xsz4, xs5, xsz5⟩ := xs.f6
      go_wp2_with fail
      clear xs0 xsz0 xs1 xsz1 xs2 xsz2 xs3 xsz3 xs4 xsz4 xs5 xsz5
      have xk := Box.new 3 V3 [.int .i64 61, .int .i64 62, .int .i64 63, .int .i64 52, .int .i64 53, .int .i64 54, .int .i64 55]
      have ne_xk_xs : V3.heap.size ≠ W.heap.size := Nat.ne_of_gt xs.lt
      have le_xk : W.heap.size ≤ V3.heap.size := hB.size
      replace xs := xs.alloc (.cells #[.int .i64 61, .int .i64 62, .int .i64 63, .int .i64 52, .int .i64 53, .int .i64 54, .int .i64 55] 3)
      replace hB := hB.alloc hB.size (.cells #[.int .i64 61, .int .i64 62, .int .i64 63, .int .i64 52, .int .i64 53, .int .i64 54, .int .i64 55] 3)
      obtain ⟨xs0, xsz0, xs1, xsz1, xs2, xsz2, xs3, xsz3, xs4, xsz4, xs5, xsz5⟩ := xs.f6
      obtain ⟨xk0, xkz0, xk1, xkz1, xk2, xkz2, xk3, xkz3, xk4, xkz4, xk5, xkz5, xk6, xkz6⟩ := xk.f7
      refine (T1.out _).mono ?_
      rintro e V4 ⟨rfl, hk⟩
      clear xs0 xsz0 xs1 xsz1 xs2 xsz2 xs3 xsz3 xs4 xsz4 xs5 xsz5 xk0 xkz0 xk1 xkz1 xk2 xkz2 xk3 xkz3 xk4 xkz4 xk5 xkz5 xk6 xkz6
      replace hB := below_seq hB hk
      replace xs := xs.seq hk
      replace xk := xk.seq hk
      clear hk
      have xt := Box.new 23 V4 [.int .i64 0, .bool false, .bool false, .int .i64 0, .int .i64 0, .int .i64 0]
      have ne_xt_xs : V4.heap.size ≠ W.heap.size := Nat.ne_of_gt xs.lt
      have ne_xt_xk : V4.heap.size ≠ V3.heap.size := Nat.ne_of_gt xk.lt
      have le_xt : W.heap.size ≤ V4.heap.size := hB.size
      replace xs := xs.alloc (.cells #[.int .i64 0, .bool false, .bool false, .int .i64 0, .int .i64 0, .int .i64 0] 23)
      replace xk := xk.alloc (.cells #[.int .i64 0, .bool false, .bool false, .int .i64 0, .int .i64 0, .int .i64 0] 23)
      replace hB := hB.alloc hB.size (.cells #[.int .i64 0, .bool false, .bool false, .int .i64 0, .int .i64 0, .int .i64 0] 23)
      obtain ⟨xs0, xsz0, xs1, xsz1, xs2, xsz2, xs3, xsz3, xs4, xsz4, xs5, xsz5⟩ := xs.f6
      obtain ⟨xk0, xkz0, xk1, xkz1, xk2, xkz2, xk3, xkz3, xk4, xkz4, xk5, xkz5, xk6, xkz6⟩ := xk.f7
      obtain ⟨xt0, xtz0, xt1, xtz1, xt2, xtz2, xt3, xtz3, xt4, xtz4, xt5, xtz5⟩ := xt.f6
      go_wp2_with fail
      refine (T2.out _).mono ?_
      rintro e V5 ⟨rfl, hk⟩
      clear xs0 xsz0 xs1 xsz1 xs2 xsz2 xs3 xsz3 xs4 xsz4 xs5 xsz5 xk0 xkz0 xk1 xkz1 xk2 xkz2 xk3 xkz3 xk4 xkz4 xk5 xkz5 xk6 xkz6 xt0 xtz0 xt1 xtz1 xt2 xtz2 xt3 xtz3 xt4 xtz4 xt5 xtz5
      replace hB := below_seq hB hk
      replace xs := xs.seq hk
      replace xk := xk.seq hk
      replace xt := xt.seq hk
      clear hk
      have xu := Box.new 23 V5 [.int .i64 0, .bool false, .bool false, .int .i64 0, .int .i64 0, .int .i64 0]
      have ne_xu_xs : V5.heap.size ≠ W.heap.size := Nat.ne_of_gt xs.lt
      have ne_xu_xk : V5.heap.size ≠ V3.heap.size := Nat.ne_of_gt xk.lt
      have ne_xu_xt : V5.heap.size ≠ V4.heap.size := Nat.ne_of_gt xt.lt
      have le_xu : W.heap.size ≤ V5.heap.size := hB.size
      replace xs := xs.alloc (.cells #[.int .i64 0, .bool false, .bool false, .int .i64 0, .int .i64 0, .int .i64 0] 23)
      replace xk := xk.alloc (.cells #[.int .i64 0, .bool false, .bool false, .int .i64 0, .int .i64 0, .int .i64 0] 23)
      replace xt := xt.alloc (.cells #[.int .i64 0, .bool false, .bool false, .int .i64 0, .int .i64 0, .int .i64 0] 23)
      replace hB := hB.alloc hB.size (.cells #[.int .i64 0, .bool false, .bool false, .int .i64 0, .int .i64 0, .int .i64 0] 23)
      obtain ⟨xs0, xsz0, xs1, xsz1, xs2, xsz2, xs3, xsz3, xs4, xsz4, xs5, xsz5⟩ := xs.f6
      obtain ⟨xk0, xkz0, xk1, xkz1, xk2, xkz2, xk3, xkz3, xk4, xkz4, xk5, xkz5, xk6, xkz6⟩ := xk.f7
      obtain ⟨xt0, xtz0, xt1, xtz1, xt2, xtz2, xt3, xtz3, xt4, xtz4, xt5, xtz5⟩ := xt.f6
      obtain ⟨xu0, xuz0, xu1, xuz1, xu2, xuz2, xu3, xuz3, xu4, xuz4, xu5, xuz5⟩ := xu.f6
      go_wp2
      go_ret
      exact ⟨rfl, hB⟩
    · skip
      by_cases hj2 : bit.toNat % 7 = 2
      · have hj := hj2
        clear hj2
        have hb : (wrap64 (bit.toNat : Int)).tmod 7 = 2 := by { rw [w64_u8, Int.tmod_eq_emod_of_nonneg (by omega)]; omega }
        obtain rfl : k = 63 := by { rw [hj] at hk; exact (Option.some.inj hk).symm }
        obtain ⟨x1, x2⟩ := spare_or hP (k := 63) (by decide)
        obtain ⟨y1, y2⟩ := unp_none x2
        have T1 := fun (V : World) => own14Unpack (P ||| 2 ^ 63) V x1
        simp only [y1, y2, St.zero] at T1
        have o1 : bits .or .u64 (P : Int) 9223372036854775808 = ((P ||| 2 ^ 63 : Nat) : Int) := u64_or_nat P 9223372036854775808 (by omega) (by decide)
        generalize P ||| 2 ^ 63 = A at *
        replace T1 := Lib.hid T1
        clear x1 x2 y1 y2 hj hk
        clear hP hj7
        have hB : Below W.heap.size W (W.alloc (.cells #[.int .i64 a1, .bool a2, .bool a3, .int .i64 a4, .int .i64 a5, .int .i64 a6] 23)) := ((Below.refl _ _).alloc (Nat.le_refl _) _)
        have xs := (Box.new 23 W [.int .i64 a1, .bool a2, .bool a3, .int .i64 a4, .int .i64 a5, .int .i64 a6])
        go_enter Try.func7, Try.ntmps7
        obtain ⟨xs0, xsz0, xs1, xsz1, xs2, xsz2, xs3, xsz3, xs4, xsz4, xs5, xsz5⟩ := xs.f6
        go_wp2_with fail
        refine (TL.out _).mono ?_
        rintro e V1 ⟨rfl, hk⟩
        clear xs0 xsz0 xs1 xsz1 xs2 xsz2 xs3 xsz3 xs4 xsz4 xs5 xsz5
        replace hB := below_seq hB hk
        replace xs := xs.seq hk
        clear hk
        obtain ⟨xs0, xsz0, xs1, xsz1, xs2, xsz2, xs3, xsz3, xs4, xsz4, xs5, xsz5⟩ := xs.f6
        go_wp2_with fail
        refine (shown14 _).mono ?_
        rintro e V2 ⟨rfl, hk⟩
        clear xs0 xsz0 xs1 xsz1 xs2 xsz2 xs3 xsz3 xs4 xsz4 xs5 xsz5
        replace hB := below_seq hB hk
        replace xs := xs.seq hk
        clear hk
        obtain ⟨xs0, xsz0, xs1, xsz1, xs2, xsz2, xs3, xsz3, xs4, xsz4, xs5, xsz5⟩ := xs.f6
        go_wp2_with fail
        refine (TP.out _).mono ?_
        rintro e V3 ⟨rfl, hk⟩
        clear xs0 xsz0 xs1 xsz1 xs2 xsz2 xs3 xsz3 xs4 xsz4 xs5 xsz5
        replace hB := below_seq hB hk
        replace xs := xs.seq hk
        clear hk
        obtain ⟨xs0, xsz0, xs1, xsz1, xs2, xsz2, xs3, xsz3, xs4, xsz4, xs5, xsz5⟩ := xs.f6
        go_wp2_with fail
        clear xs0 xsz0 xs1 xsz1 xs2 xsz2 xs3 xsz3 xs4 xsz4 xs5 xsz5
        have xk := Box.new 3 V3 [.int .i64 61, .int .i64 62, .int .i64 63, .int .i64 52, .int .i64 53, .int .i64 54, .int .i64 55]
        have ne_xk_xs : V3.heap.size ≠ W.heap.size := Nat.ne_of_gt xs.lt
        have le_xk : W.heap.size ≤ V3.heap.size := hB.size
        replace xs := xs.alloc (.cells #[.int .i64 61, .int .i64 62, .int .i64 63, .int .i64 52, .int .i64 53, .int .i64 54, .int .i64 55] 3)
        replace hB := hB.alloc hB.size (.cells #[.int .i64 61, .int .i64 62, .int .i64 63, .int .i64 52, .int .i64 53, .int .i64 54, .int .i64 55] 3)
        obtain ⟨xs0, xsz0, xs1, xsz1, xs2, xsz2, xs3, xsz3, xs4, xsz4, xs5, xsz5⟩ := xs.f6
        obtain ⟨xk0, xkz0, xk1, xkz1, xk2, xkz2, xk3, xkz3, xk4, xkz4, xk5, xkz5, xk6, xkz6⟩ := xk.f7
        refine (T1.out _).mono ?_
        rintro e V4 ⟨rfl, hk⟩
        clear xs0 xsz0 xs1 xsz1 xs2 xsz2 xs3 xsz3 xs4 xsz4 xs5 xsz5 xk0 xkz0 xk1 xkz1 xk2 xkz2 xk3 xkz3 xk4 xkz4 xk5 xkz5 xk6 xkz6
        replace hB := below_seq hB hk
        replace xs := xs.seq hk
        replace xk := xk.seq hk
        clear hk
        have xt := Box.new 23 V4 [.int .i64 0, .bool false, .bool false, .int .i64 0, .int .i64 0, .int .i64 0]
        have ne_xt_xs : V4.heap.size ≠ W.heap.size := Nat.ne_of_gt xs.lt
        have ne_xt_xk : V4.heap.size ≠ V3.heap.size := Nat.ne_of_gt xk.lt
        have le_xt : W.heap.size ≤ V4.heap.size := hB.size
        replace xs := xs.alloc (.cells #[.int .i64 0, .bool false, .bool false, .int .i64 0, .int .i64 0, .int .i64 0] 23)
        replace xk := xk.alloc (.cells #[.int .i64 0, .bool false, .bool false, .int .i64 0, .int .i64 0, .int .i64 0] 23)
        replace hB := hB.alloc hB.size (.cells #[.int .i64 0, .bool false, .bool false, .int .i64 0, .int .i64 0, .int .i64 0] 23)
        obtain ⟨xs0, xsz0, xs1, xsz1, xs2, xsz2, xs3, xsz3, xs4, xsz4, xs5, xsz5⟩ := xs.f6
        obtain ⟨xk0, xkz0, xk1, xkz1, xk2, xkz2, xk3, xkz3, xk4, xkz4, xk5, xkz5, xk6, xkz6⟩ := xk.f7
        obtain ⟨xt0, xtz0, xt1, xtz1, xt2, xtz2, xt3, xtz3, xt4, xtz4, xt5, xtz5⟩ := xt.f6
        go_wp2_with fail
        refine (T2.out _).mono ?_
        rintro e V5 ⟨rfl, hk⟩
        clear xs0 xsz0 xs1 xsz1 xs2 xsz2 xs3 xsz3 xs4 xsz4 xs5 xsz5 xk0 xkz0 xk1 xkz1 xk2 xkz2 xk3 xkz3 xk4 xkz4 xk5 xkz5 xk6 xkz6 xt0 xtz0 xt1 xtz1 xt2 xtz2 xt3 xtz3 xt4 xtz4 xt5 xtz5
        replace hB := below_seq hB hk
        replace xs := xs.seq hk
        replace xk := xk.seq hk
        replace xt := xt.seq hk
        clear hk
        have xu := Box.new 23 V5 [.int .i64 0, .bool false, .bool false, .int .i64 0, .int .i64 0, .int .i64 0]
        have ne_xu_xs : V5.heap.size ≠ W.heap.size := Nat.ne_of_gt xs.lt
        have ne_xu_xk : V5.heap.size ≠ V3.heap.size := Nat.ne_of_gt xk.lt
        have ne_xu_xt : V5.heap.size ≠ V4.heap.size := Nat.ne_of_gt xt.lt
        have le_xu : W.heap.size ≤ V5.heap.size := hB.size
        replace xs := xs.alloc (.cells #[.int .i64 0, .bool false, .bool false, .int .i64 0, .int .i64 0, .int .i64 0] 23)
        replace xk := xk.alloc (.cells #[.int .i64 0, .bool false, .bool false, .int .i64 0, .int .i64 0, .int .i64 0] 23)
        replace xt := xt.alloc (.cells #[.int .i64 0, .bool false, .bool false, .int .i64 0, .int .i64 0, .int .i64 0] 23)
        replace hB := hB.alloc hB.size (.cells #[.int .i64 0, .bool false, .bool false, .int .i64 0, .int .i64 0, .int .i64 0] 23)
        obtain ⟨xs0, xsz0, xs1, xsz1, xs2, xsz2, xs3, xsz3, xs4, xsz4, xs5, xsz5⟩ := xs.f6
        obtain ⟨xk0, xkz0, xk1, xkz1, xk2, xkz2, xk3, xkz3, xk4, xkz4, xk5, xkz5, xk6, xkz6⟩ := xk.f7
        obtain ⟨xt0, xtz0, xt1, xtz1, xt2, xtz2, xt3, xtz3, xt4, xtz4, xt5, xtz5⟩ := xt.f6
        obtain ⟨xu0, xuz0, xu1, xuz1, xu2, xuz2, xu3, xuz3, xu4, xuz4, xu5, xuz5⟩ := xu.f6
        go_wp2
        go_ret
        exact ⟨rfl, hB⟩
      · skip
        by_cases hj3 : bit.toNat % 7 = 3
        · have hj := hj3
          clear hj3
          have hb : (wrap64 (bit.toNat : Int)).tmod 7 = 3 := by { rw [w64_u8, Int.tmod_eq_emod_of_nonneg (by omega)]; omega }
          obtain rfl : k = 52 := by { rw [hj] at hk; exact (Option.some.inj hk).symm }
          obtain ⟨x1, x2⟩ := spare_or hP (k := 52) (by decide)
          obtain ⟨y1, y2⟩ := unp_none x2
          have T1 := fun (V : World) => own14Unpack (P ||| 2 ^ 52) V x1
          simp only [y1, y2, St.zero] at T1
          have o1 : bits .or .u64 (P : Int) 4503599627370496 = ((P ||| 2 ^ 52 : Nat) : Int) := u64_or_nat P 4503599627370496 (by omega) (by decide)
          generalize P ||| 2 ^ 52 = A at *
          replace T1 := Lib.hid T1
          clear x1 x2 y1 y2 hj hk
          clear hP hj7
          have hB : Below W.heap.size W (W.alloc (.cells #[.int .i64 a1, .bool a2, .bool a3, .int .i64 a4, .int .i64 a5, .int .i64 a6] 23)) := ((Below.refl _ _).alloc (Nat.le_refl _) _)
          have xs := (Box.new 23 W [.int .i64 a1, .bool a2, .bool a3, .int .i64 a4, .int .i64 a5, .int .i64 a6])
          go_enter Try.func7, Try.ntmps7
          obtain ⟨xs0, xsz0, xs1, xsz1, xs2, xsz2, xs3, xsz3, xs4, xsz4, xs5, xsz5⟩ := xs.f6
          go_wp2_with fail
          refine (TL.out _).mono ?_
          rintro e V1 ⟨rfl, hk⟩
          clear xs0 xsz0 xs1 xsz1 xs2 xsz2 xs3 xsz3 xs4 xsz4 xs5 xsz5
          replace hB := below_seq hB hk
          replace xs := xs.seq hk
          clear hk
          obtain ⟨xs0, xsz0, xs1, xsz1, xs2, xsz2, xs3, xsz3, xs4, xsz4, xs5, xsz5⟩ := xs.f6
          go_wp2_with fail
          refine (shown14 _).mono ?_
          rintro e V2 ⟨rfl, hk⟩
          clear xs0 xsz0 xs1 xsz1 xs2 xsz2 xs3 xsz3 xs4 xsz4 xs5 xsz5
          replace hB := below_seq hB hk
          replace xs := xs.seq hk
          clear hk
          obtain ⟨xs0, xsz0, xs1, xsz1, xs2, xsz2, xs3, xsz3, xs4, xsz4, xs5, xsz5⟩ := xs.f6
          go_wp2_with fail
          refine (TP.out _).mono ?_
          rintro e V3 ⟨rfl, hk⟩
          clear xs0 xsz0 xs1 xsz1 xs2 xsz2 xs3 xsz3 xs4 xsz4 xs5 xsz5
          replace hB := below_seq hB hk
          replace xs := xs.seq hk
          clear hk
          obtain ⟨xs0, xsz0, xs1, xsz1, xs2, xsz2, xs3, xsz3, xs4, xsz4, xs5, xsz5⟩ := xs.f6
          go_wp2_with fail
          clear xs0 xsz0 xs1 xsz1 xs2 xsz2 xs3 xsz3 xs4 xsz4 xs5 xsz5
          have xk := Box.new 3 V3 [.int .i64 61, .int .i64 62, .int .i64 63, .int .i64 52, .int .i64 53, .int .i64 54, .int .i64 55]
          have ne_xk_xs : V3.heap.size ≠ W.heap.size := Nat.ne_of_gt xs.lt
          have le_xk : W.heap.size ≤ V3.heap.size := hB.size
          replace xs := xs.alloc (.cells #[.int .i64 61, .int .i64 62, .int .i64 63, .int .i64 52, .int .i64 53, .int .i64 54, .int .i64 55] 3)
          replace hB := hB.alloc hB.size (.cells #[.int .i64 61, .int .i64 62, .int .i64 63, .int .i64 52, .int .i64 53, .int .i64 54, .int .i64 55] 3)
          obtain ⟨xs0, xsz0, xs1, xsz1, xs2, xsz2, xs3, xsz3, xs4, xsz4, xs5, xsz5⟩ := xs.f6
          obtain ⟨xk0, xkz0, xk1, xkz1, xk2, xkz2, xk3, xkz3, xk4, xkz4, xk5, xkz5, xk6, xkz6⟩ := xk.f7
          refine (T1.out _).mono ?_
          rintro e V4 ⟨rfl, hk⟩
          clear xs0 xsz0 xs1 xsz1 xs2 xsz2 xs3 xsz3 xs4 xsz4 xs5 xsz5 xk0 xkz0 xk1 xkz1 xk2 xkz2 xk3 xkz3 xk4 xkz4 xk5 xkz5 xk6 xkz6
          replace hB := below_seq hB hk
          replace xs := xs.seq hk
          replace xk := xk.seq hk
          clear hk
          have xt := Box.new 23 V4 [.int .i64 0, .bool false, .bool false, .int .i64 0, .int .i64 0, .int .i64 0]
          have ne_xt_xs : V4.heap.size ≠ W.heap.size := Nat.ne_of_gt xs.lt
          have ne_xt_xk : V4.heap.size ≠ V3.heap.size := Nat.ne_of_gt xk.lt
          have le_xt : W.heap.size ≤ V4.heap.size := hB.size
          replace xs := xs.alloc (.cells #[.int .i64 0, .bool false, .bool false, .int .i64 0, .int .i64 0, .int .i64 0] 23)
          replace xk := xk.alloc (.cells #[.int .i64 0, .bool false, .bool false, .int .i64 0, .int .i64 0, .int .i64 0] 23)
          replace hB := hB.alloc hB.size (.cells #[.int .i64 0, .bool false, .bool false, .int .i64 0, .int .i64 0, .int .i64 0] 23)
          obtain ⟨xs0, xsz0, xs1, xsz1, xs2, xsz2, xs3, xsz3, xs4, xsz4, xs5, xsz5⟩ := xs.f6
          obtain ⟨xk0, xkz0, xk1, xkz1, xk2, xkz2, xk3, xkz3, xk4, xkz4, xk5, xkz5, xk6, xkz6⟩ := xk.f7
          obtain ⟨xt0, xtz0, xt1, xtz1, xt2, xtz2, xt3, xtz3, xt4, xtz4, xt5, xtz5⟩ := xt.f6
          go_wp2_with fail
          refine (T2.out _).mono ?_
          rintro e V5 ⟨rfl, hk⟩
          clear xs0 xsz0 xs1 xsz1 xs2 xsz2 xs3 xsz3 xs4 xsz4 xs5 xsz5 xk0 xkz0 xk1 xkz1 xk2 xkz2 xk3 xkz3 xk4 xkz4 xk5 xkz5 xk6 xkz6 xt0 xtz0 xt1 xtz1 xt2 xtz2 xt3 xtz3 xt4 xtz4 xt5 xtz5
          replace hB := below_seq hB hk
          replace xs := xs.seq hk
          replace xk := xk.seq hk
          replace xt := xt.seq hk
          clear hk
          have xu := Box.new 23 V5 [.int .i64 0, .bool false, .bool false, .int .i64 0, .int .i64 0, .int .i64 0]
          have ne_xu_xs : V5.heap.size ≠ W.heap.size := Nat.ne_of_gt xs.lt
          have ne_xu_xk : V5.heap.size ≠ V3.heap.size := Nat.ne_of_gt xk.lt
          have ne_xu_xt : V5.heap.size ≠ V4.heap.size := Nat.ne_of_gt xt.lt
          have le_xu : W.heap.size ≤ V5.heap.size := hB.size
          replace xs := xs.alloc (.cells #[.int .i64 0, .bool false, .bool false, .int .i64 0, .int .i64 0, .int .i64 0] 23)
          replace xk := xk.alloc (.cells #[.int .i64 0, .bool false, .bool false, .int .i64 0, .int .i64 0, .int .i64 0] 23)
          replace xt := xt.alloc (.cells #[.int .i64 0, .bool false, .bool false, .int .i64 0, .int .i64 0, .int .i64 0] 23)
          replace hB := hB.alloc hB.size (.cells #[.int .i64 0, .bool false, .bool false, .int .i64 0, .int .i64 0, .int .i64 0] 23)
          obtain ⟨xs0, xsz0, xs1, xsz1, xs2, xsz2, xs3, xsz3, xs4, xsz4, xs5, xsz5⟩ := xs.f6
          obtain ⟨xk0, xkz0, xk1, xkz1, xk2, xkz2, xk3, xkz3, xk4, xkz4, xk5, xkz5, xk6, xkz6⟩ := xk.f7
          obtain ⟨xt0, xtz0, xt1, xtz1, xt2, xtz2, xt3, xtz3, xt4, xtz4, xt5, xtz5⟩ := xt.f6
          obtain ⟨xu0, xuz0, xu1, xuz1, xu2, xuz2, xu3, xuz3, xu4, xuz4, xu5, xuz5⟩ := xu.f6
          go_wp2
          go_ret
          exact ⟨rfl, hB⟩
        · skip
          by_cases hj4 : bit.toNat % 7 = 4
          · have hj := hj4
            clear hj4
            have hb : (wrap64 (bit.toNat : Int)).tmod 7 = 4 := by { rw [w64_u8, Int.tmod_eq_emod_of_nonneg (by omega)]; omega }
            obtain rfl : k = 53 := by { rw [hj] at hk; exact (Option.some.inj hk).symm }
            obtain ⟨x1, x2⟩ := spare_or hP (k := 53) (by decide)
            obtain ⟨y1, y2⟩ := unp_none x2
            have T1 := fun (V : World) => own14Unpack (P ||| 2 ^ 53) V x1
            simp only [y1, y2, St.zero] at T1
            have o1 : bits .or .u64 (P : Int) 9007199254740992 = ((P ||| 2 ^ 53 : Nat) : Int) := u64_or_nat P 9007199254740992 (by omega) (by decide)
            generalize P ||| 2 ^ 53 = A at *
            replace T1 := Lib.hid T1
            clear x1 x2 y1 y2 hj hk
            clear hP hj7
            have hB : Below W.heap.size W (W.alloc (.cells #[.int .i64 a1, .bool a2, .bool a3, .int .i64 a4, .int .i64 a5, .int .i64 a6] 23)) := ((Below.refl _ _).alloc (Nat.le_refl _) _)
            have xs := (Box.new 23 W [.int .i64 a1, .bool a2, .bool a3, .int .i64 a4, .int .i64 a5, .int .i64 a6])
            go_enter Try.func7, Try.ntmps7
            obtain ⟨xs0, xsz0, xs1, xsz1, xs2, xsz2, xs3, xsz3, xs4, xsz4, xs5, xsz5⟩ := xs.f6
            go_wp2_with fail
            refine (TL.out _).mono ?_
            rintro e V1 ⟨rfl, hk⟩
            clear xs0 xsz0 xs1 xsz1 xs2 xsz2 xs3 xsz3 xs4 xsz4 xs5 xsz5
            replace hB := below_seq hB hk
            replace xs := xs.seq hk
            clear hk
            obtain ⟨xs0, xsz0, xs1, xsz1, xs2, xsz2, xs3, xsz3, xs4, xsz4, xs5, xsz5⟩ := xs.f6
            go_wp2_with fail
            refine (shown14 _).mono ?_
            rintro e V2 ⟨rfl, hk⟩
            clear xs0 xsz0 xs1 xsz1 xs2 xsz2 xs3 xsz3 xs4 xsz4 xs5 xsz5
            replace hB := below_seq hB hk
            replace xs := xs.seq hk
            clear hk
            obtain ⟨xs0, xsz0, xs1, xsz1, xs2, xsz2, xs3, xsz3, xs4, xsz4, xs5, xsz5⟩ := xs.f6
            go_wp2_with fail
            refine (TP.out _).mono ?_
            rintro e V3 ⟨rfl, hk⟩
            clear xs0 xsz0 xs1 xsz1 xs2 xsz2 xs3 xsz3 xs4 xsz4 xs5 xsz5
            replace hB := below_seq hB hk
            replace xs := xs.seq hk
            clear hk
            obtain ⟨xs0, xsz0, xs1, xsz1, xs2, xsz2, xs3, xsz3, xs4, xsz4, xs5, xsz5⟩ := xs.f6
            go_wp2_with fail
            clear xs0 xsz0 xs1 xsz1 xs2 xsz2 xs3 xsz3 xs4 xsz4 xs5 xsz5
            have xk := Box.new 3 V3 [.int .i64 61, .int .i64 62, .int .i64 63, .int .i64 52, .int .i64 53, .int .i64 54, .int .i64 55]
            have ne_xk_xs : V3.heap.size ≠ W.heap.size := Nat.ne_of_gt xs.lt
            have le_xk : W.heap.size ≤ V3.heap.size := hB.size
            replace xs := xs.alloc (.cells #[.int .i64 61, .int .i64 62, .int .i64 63, .int .i64 52, .int .i64 53, .int .i64 54, .int .i64 55] 3)
            replace hB := hB.alloc hB.size (.cells #[.int .i64 61, .int .i64 62, .int .i64 63, .int .i64 52, .int .i64 53, .int .i64 54, .int .i64 55] 3)
            obtain ⟨xs0, xsz0, xs1, xsz1, xs2, xsz2, xs3, xsz3, xs4, xsz4, xs5, xsz5⟩ := xs.f6
            obtain ⟨xk0, xkz0, xk1, xkz1, xk2, xkz2, xk3, xkz3, xk4, xkz4, xk5, xkz5, xk6, xkz6⟩ := xk.f7
            refine (T1.out _).mono ?_
            rintro e V4 ⟨rfl, hk⟩
            clear xs0 xsz0 xs1 xsz1 xs2 xsz2 xs3 xsz3 xs4 xsz4 xs5 xsz5 xk0 xkz0 xk1 xkz1 xk2 xkz2 xk3 xkz3 xk4 xkz4 xk5 xkz5 xk6 xkz6
            replace hB := below_seq hB hk
            replace xs := xs.seq hk
            replace xk := xk.seq hk
            clear hk
            have xt := Box.new 23 V4 [.int .i64 0, .bool false, .bool false, .int .i64 0, .int .i64 0, .int .i64 0]
            have ne_xt_xs : V4.heap.size ≠ W.heap.size := Nat.ne_of_gt xs.lt
            have ne_xt_xk : V4.heap.size ≠ V3.heap.size := Nat.ne_of_gt xk.lt
            have le_xt : W.heap.size ≤ V4.heap.size := hB.size
            replace xs := xs.alloc (.cells #[.int .i64 0, .bool false, .bool false, .int .i64 0, .int .i64 0, .int .i64 0] 23)
            replace xk := xk.alloc (.cells #[.int .i64 0, .bool false, .bool false, .int .i64 0, .int .i64 0, .int .i64 0] 23)
            replace hB := hB.alloc hB.size (.cells #[.int .i64 0, .bool false, .bool false, .int .i64 0, .int .i64 0, .int .i64 0] 23)
            obtain ⟨xs0, xsz0, xs1, xsz1, xs2, xsz2, xs3, xsz3, xs4, xsz4, xs5, xsz5⟩ := xs.f6
            obtain ⟨xk0, xkz0, xk1, xkz1, xk2, xkz2, xk3, xkz3, xk4, xkz4, xk5, xkz5, xk6, xkz6⟩ := xk.f7
            obtain ⟨xt0, xtz0, xt1, xtz1, xt2, xtz2, xt3, xtz3, xt4, xtz4, xt5, xtz5⟩ := xt.f6
            go_wp2_with fail
            refine (T2.out _).mono ?_
            rintro e V5 ⟨rfl, hk⟩
            clear xs0 xsz0 xs1 xsz1 xs2 xsz2 xs3 xsz3 xs4 xsz4 xs5 xsz5 xk0 xkz0 xk1 xkz1 xk2 xkz2 xk3 xkz3 xk4 xkz4 xk5 xkz5 xk6 xkz6 xt0 xtz0 xt1 xtz1 xt2 xtz2 xt3 xtz3 xt4 xtz4 xt5 xtz5
            replace hB := below_seq hB hk
            replace xs := xs.seq hk
            replace xk := xk.seq hk
            replace xt := xt.seq hk
            clear hk
            have xu := Box.new 23 V5 [.int .i64 0, .bool false, .bool false, .int .i64 0, .int .i64 0, .int .i64 0]
            have ne_xu_xs : V5.heap.size ≠ W.heap.size := Nat.ne_of_gt xs.lt
            have ne_xu_xk : V5.heap.size ≠ V3.heap.size := Nat.ne_of_gt xk.lt
            have ne_xu_xt : V5.heap.size ≠ V4.heap.size := Nat.ne_of_gt xt.lt
            have le_xu : W.heap.size ≤ V5.heap.size := hB.size
            replace xs := xs.alloc (.cells #[.int .i64 0, .bool false, .bool false, .int .i64 0, .int .i64 0, .int .i64 0] 23)
            replace xk := xk.alloc (.cells #[.int .i64 0, .bool false, .bool false, .int .i64 0, .int .i64 0, .int .i64 0] 23)
            replace xt := xt.alloc (.cells #[.int .i64 0, .bool false, .bool false, .int .i64 0, .int .i64 0, .int .i64 0] 23)
            replace hB := hB.alloc hB.size (.cells #[.int .i64 0, .bool false, .bool false, .int .i64 0, .int .i64 0, .int .i64 0] 23)
            obtain ⟨xs0, xsz0, xs1, xsz1, xs2, xsz2, xs3, xsz3, xs4, xsz4, xs5, xsz5⟩ := xs.f6
            obtain ⟨xk0, xkz0, xk1, xkz1, xk2, xkz2, xk3, xkz3, xk4, xkz4, xk5, xkz5, xk6, xkz6⟩ := xk.f7
            obtain ⟨xt0, xtz0, xt1, xtz1, xt2, xtz2, xt3, xtz3, xt4, xtz4, xt5, xtz5⟩ := xt.f6
            obtain ⟨xu0, xuz0, xu1, xuz1, xu2, xuz2, xu3, xuz3, xu4, xuz4, xu5, xuz5⟩ := xu.f6
            go_wp2
            go_ret
            exact ⟨rfl, hB⟩
          · skip
            by_cases hj5 : bit.toNat % 7 = 5
            · have hj := hj5
              clear hj5
              have hb : (wrap64 (bit.toNat : Int)).tmod 7 = 5 := by { rw [w64_u8, Int.tmod_eq_emod_of_nonneg (by omega)]; omega }
              obtain rfl : k = 54 := by { rw [hj] at hk; exact (Option.some.inj hk).symm }
              obtain ⟨x1, x2⟩ := spare_or hP (k := 54) (by decide)
              obtain ⟨y1, y2⟩ := unp_none x2
              have T1 := fun (V : World) => own14Unpack (P ||| 2 ^ 54) V x1
              simp only [y1, y2, St.zero] at T1
              have o1 : bits .or .u64 (P : Int) 18014398509481984 = ((P ||| 2 ^ 54 : Nat) : Int) := u64_or_nat P 18014398509481984 (by omega) (by decide)
              generalize P ||| 2 ^ 54 = A at *
              replace T1 := Lib.hid T1
              clear x1 x2 y1 y2 hj hk
              clear hP hj7
              have hB : Below W.heap.size W (W.alloc (.cells #[.int .i64 a1, .bool a2, .bool a3, .int .i64 a4, .int .i64 a5, .int .i64 a6] 23)) := ((Below.refl _ _).alloc (Nat.le_refl _) _)
              have xs := (Box.new 23 W [.int .i64 a1, .bool a2, .bool a3, .int .i64 a4, .int .i64 a5, .int .i64 a6])
              go_enter Try.func7, Try.ntmps7
              obtain ⟨xs0, xsz0, xs1, xsz1, xs2, xsz2, xs3, xsz3, xs4, xsz4, xs5, xsz5⟩ := xs.f6
              go_wp2_with fail
              refine (TL.out _).mono ?_
              rintro e V1 ⟨rfl, hk⟩
              clear xs0 xsz0 xs1 xsz1 xs2 xsz2 xs3 xsz3 xs4 xsz4 xs5 xsz5
              replace hB := below_seq hB hk
              replace xs := xs.seq hk
              clear hk
              obtain ⟨xs0, xsz0, xs1, xsz1, xs2, xsz2, xs3, xsz3, xs4, xsz4, xs5, xsz5⟩ := xs.f6
              go_wp2_with fail
              refine (shown14 _).mono ?_
              rintro e V2 ⟨rfl, hk⟩
              clear xs0 xsz0 xs1 xsz1 xs2 xsz2 xs3 xsz3 xs4 xsz4 xs5 xsz5
              replace hB := below_seq hB hk
              replace xs := xs.seq hk
              clear hk
              obtain ⟨xs0, xsz0, xs1, xsz1, xs2, xsz2, xs3, xsz3, xs4, xsz4, xs5, xsz5⟩ := xs.f6
              go_wp2_with fail
              refine (TP.out _).mono ?_
              rintro e V3 ⟨rfl, hk⟩
              clear xs0 xsz0 xs1 xsz1 xs2 xsz2 xs3 xsz3 xs4 xsz4 xs5 xsz5
              replace hB := below_seq hB hk
              replace xs := xs.seq hk
              clear hk
              obtain ⟨xs0, xsz0, xs1, xsz1, xs2, xsz2, xs3, xsz3, xs4, xsz4, xs5, xsz5⟩ := xs.f6
              go_wp2_with fail
              clear xs0 xsz0 xs1 xsz1 xs2 xsz2 xs3 xsz3 xs4 xsz4 xs5 xsz5
              have xk := Box.new 3 V3 [.int .i64 61, .int .i64 62, .int .i64 63, .int .i64 52, .int .i64 53, .int .i64 54, .int .i64 55]
              have ne_xk_xs : V3.heap.size ≠ W.heap.size := Nat.ne_of_gt xs.lt
              have le_xk : W.heap.size ≤ V3.heap.size := hB.size
              replace xs := xs.alloc (.cells #[.int .i64 61, .int .i64 62, .int .i64 63, .int .i64 52, .int .i64 53, .int .i64 54, .int .i64 55] 3)
              replace hB := hB.alloc hB.size (.cells #[.int .i64 61, .int .i64 62, .int .i64 63, .int .i64 52, .int .i64 53, .int .i64 54, .int .i64 55] 3)
              obtain ⟨xs0, xsz0, xs1, xsz1, xs2, xsz2, xs3, xsz3, xs4, xsz4, xs5, xsz5⟩ := xs.f6
              obtain ⟨xk0, xkz0, xk1, xkz1, xk2, xkz2, xk3, xkz3, xk4, xkz4, xk5, xkz5, xk6, xkz6⟩ := xk.f7
              refine (T1.out _).mono ?_
              rintro e V4 ⟨rfl, hk⟩
              clear xs0 xsz0 xs1 xsz1 xs2 xsz2 xs3 xsz3 xs4 xsz4 xs5 xsz5 xk0 xkz0 xk1 xkz1 xk2 xkz2 xk3 xkz3 xk4 xkz4 xk5 xkz5 xk6 xkz6
              replace hB := below_seq hB hk
              replace xs := xs.seq hk
              replace xk := xk.seq hk
              clear hk
              have xt := Box.new 23 V4 [.int .i64 0, .bool false, .bool false, .int .i64 0, .int .i64 0, .int .i64 0]
              have ne_xt_xs : V4.heap.size ≠ W.heap.size := Nat.ne_of_gt xs.lt
              have ne_xt_xk : V4.heap.size ≠ V3.heap.size := Nat.ne_of_gt xk.lt
              have le_xt : W.heap.size ≤ V4.heap.size := hB.size
              replace xs := xs.alloc (.cells #[.int .i64 0, .bool false, .bool false, .int .i64 0, .int .i64 0, .int .i64 0] 23)
              replace xk := xk.alloc (.cells #[.int .i64 0, .bool false, .bool false, .int .i64 0, .int .i64 0, .int .i64 0] 23)
              replace hB := hB.alloc hB.size (.cells #[.int .i64 0, .bool false, .bool false, .int .i64 0, .int .i64 0, .int .i64 0] 23)
              obtain ⟨xs0, xsz0, xs1, xsz1, xs2, xsz2, xs3, xsz3, xs4, xsz4, xs5, xsz5⟩ := xs.f6
              obtain ⟨xk0, xkz0, xk1, xkz1, xk2, xkz2, xk3, xkz3, xk4, xkz4, xk5, xkz5, xk6, xkz6⟩ := xk.f7
              obtain ⟨xt0, xtz0, xt1, xtz1, xt2, xtz2, xt3, xtz3, xt4, xtz4, xt5, xtz5⟩ := xt.f6
              go_wp2_with fail
              refine (T2.out _).mono ?_
              rintro e V5 ⟨rfl, hk⟩
              clear xs0 xsz0 xs1 xsz1 xs2 xsz2 xs3 xsz3 xs4 xsz4 xs5 xsz5 xk0 xkz0 xk1 xkz1 xk2 xkz2 xk3 xkz3 xk4 xkz4 xk5 xkz5 xk6 xkz6 xt0 xtz0 xt1 xtz1 xt2 xtz2 xt3 xtz3 xt4 xtz4 xt5 xtz5
              replace hB := below_seq hB hk
              replace xs := xs.seq hk
              replace xk := xk.seq hk
              replace xt := xt.seq hk
              clear hk
              have xu := Box.new 23 V5 [.int .i64 0, .bool false, .bool false, .int .i64 0, .int .i64 0, .int .i64 0]
              have ne_xu_xs : V5.heap.size ≠ W.heap.size := Nat.ne_of_gt xs.lt
              have ne_xu_xk : V5.heap.size ≠ V3.heap.size := Nat.ne_of_gt xk.lt
              have ne_xu_xt : V5.heap.size ≠ V4.heap.size := Nat.ne_of_gt xt.lt
              have le_xu : W.heap.size ≤ V5.heap.size := hB.size
              replace xs := xs.alloc (.cells #[.int .i64 0, .bool false, .bool false, .int .i64 0, .int .i64 0, .int .i64 0] 23)
              replace xk := xk.alloc (.cells #[.int .i64 0, .bool false, .bool false, .int .i64 0, .int .i64 0, .int .i64 0] 23)
              replace xt := xt.alloc (.cells #[.int .i64 0, .bool false, .bool false, .int .i64 0, .int .i64 0, .int .i64 0] 23)
              replace hB := hB.alloc hB.size (.cells #[.int .i64 0, .bool false, .bool false, .int .i64 0, .int .i64 0, .int .i64 0] 23)
              obtain ⟨xs0, xsz0, xs1, xsz1, xs2, xsz2, xs3, xsz3, xs4, xsz4, xs5, xsz5⟩ := xs.f6
              obtain ⟨xk0, xkz0, xk1, xkz1, xk2, xkz2, xk3, xkz3, xk4, xkz4, xk5, xkz5, xk6, xkz6⟩ := xk.f7
              obtain ⟨xt0, xtz0, xt1, xtz1, xt2, xtz2, xt3, xtz3, xt4, xtz4, xt5, xtz5⟩ := xt.f6
              obtain ⟨xu0, xuz0, xu1, xuz1, xu2, xuz2, xu3, xuz3, xu4, xuz4, xu5, xuz5⟩ := xu.f6
              go_wp2
              go_ret
              exact ⟨rfl, hB⟩
            · skip
              have hj : bit.toNat % 7 = 6 := by omega
              have hb : (wrap64 (bit.toNat : Int)).tmod 7 = 6 := by { rw [w64_u8, Int.tmod_eq_emod_of_nonneg (by omega)]; omega }
              obtain rfl : k = 55 := by { rw [hj] at hk; exact (Option.some.inj hk).symm }
              obtain ⟨x1, x2⟩ := spare_or hP (k := 55) (by decide)
              obtain ⟨y1, y2⟩ := unp_none x2
              have T1 := fun (V : World) => own14Unpack (P ||| 2 ^ 55) V x1
              simp only [y1, y2, St.zero] at T1
              have o1 : bits .or .u64 (P : Int) 36028797018963968 = ((P ||| 2 ^ 55 : Nat) : Int) := u64_or_nat P 36028797018963968 (by omega) (by decide)
              generalize P ||| 2 ^ 55 = A at *
              replace T1 := Lib.hid T1
              clear x1 x2 y1 y2 hj hk
              clear hP hj7
              have hB : Below W.heap.size W (W.alloc (.cells #[.int .i64 a1, .bool a2, .bool a3, .int .i64 a4, .int .i64 a5, .int .i64 a6] 23)) := ((Below.refl _ _).alloc (Nat.le_refl _) _)
              have xs := (Box.new 23 W [.int .i64 a1, .bool a2, .bool a3, .int .i64 a4, .int .i64 a5, .int .i64 a6])
              go_enter Try.func7, Try.ntmps7
              obtain ⟨xs0, xsz0, xs1, xsz1, xs2, xsz2, xs3, xsz3, xs4, xsz4, xs5, xsz5⟩ := xs.f6
              go_wp2_with fail
              refine (TL.out _).mono ?_
              rintro e V1 ⟨rfl, hk⟩
              clear xs0 xsz0 xs1 xsz1 xs2 xsz2 xs3 xsz3 xs4 xsz4 xs5 xsz5
              replace hB := below_seq hB hk
              replace xs := xs.seq hk
              clear hk
              obtain ⟨xs0, xsz0, xs1, xsz1, xs2, xsz2, xs3, xsz3, xs4, xsz4, xs5, xsz5⟩ := xs.f6
              go_wp2_with fail
              refine (shown14 _).mono ?_
              rintro e V2 ⟨rfl, hk⟩
              clear xs0 xsz0 xs1 xsz1 xs2 xsz2 xs3 xsz3 xs4 xsz4 xs5 xsz5
              replace hB := below_seq hB hk
              replace xs := xs.seq hk
              clear hk
              obtain ⟨xs0, xsz0, xs1, xsz1, xs2, xsz2, xs3, xsz3, xs4, xsz4, xs5, xsz5⟩ := xs.f6
              go_wp2_with fail
              refine (TP.out _).mono ?_
              rintro e V3 ⟨rfl, hk⟩
              clear xs0 xsz0 xs1 xsz1 xs2 xsz2 xs3 xsz3 xs4 xsz4 xs5 xsz5
              replace hB := below_seq hB hk
              replace xs := xs.seq hk
              clear hk
              obtain ⟨xs0, xsz0, xs1, xsz1, xs2, xsz2, xs3, xsz3, xs4, xsz4, xs5, xsz5⟩ := xs.f6
              go_wp2_with fail
              clear xs0 xsz0 xs1 xsz1 xs2 xsz2 xs3 xsz3 xs4 xsz4 xs5 xsz5
              have xk := Box.new 3 V3 [.int .i64 61, .int .i64 62, .int .i64 63, .int .i64 52, .int .i64 53, .int .i64 54, .int .i64 55]
              have ne_xk_xs : V3.heap.size ≠ W.heap.size := Nat.ne_of_gt xs.lt
              have le_xk : W.heap.size ≤ V3.heap.size := hB.size
              replace xs := xs.alloc (.cells #[.int .i64 61, .int .i64 62, .int .i64 63, .int .i64 52, .int .i64 53, .int .i64 54, .int .i64 55] 3)
              replace hB := hB.alloc hB.size (.cells #[.int .i64 61, .int .i64 62, .int .i64 63, .int .i64 52, .int .i64 53, .int .i64 54, .int .i64 55] 3)
              obtain ⟨xs0, xsz0, xs1, xsz1, xs2, xsz2, xs3, xsz3, xs4, xsz4, xs5, xsz5⟩ := xs.f6
              obtain ⟨xk0, xkz0, xk1, xkz1, xk2, xkz2, xk3, xkz3, xk4, xkz4, xk5, xkz5, xk6, xkz6⟩ := xk.f7
              refine (T1.out _).mono ?_
              rintro e V4 ⟨rfl, hk⟩
              clear xs0 xsz0 xs1 xsz1 xs2 xsz2 xs3 xsz3 xs4 xsz4 xs5 xsz5 xk0 xkz0 xk1 xkz1 xk2 xkz2 xk3 xkz3 xk4 xkz4 xk5 xkz5 xk6 xkz6
              replace hB := below_seq hB hk
              replace xs := xs.seq hk
              replace xk := xk.seq hk
              clear hk
              have xt := Box.new 23 V4 [.int .i64 0, .bool false, .bool false, .int .i64 0, .int .i64 0, .int .i64 0]
              have ne_xt_xs : V4.heap.size ≠ W.heap.size := Nat.ne_of_gt xs.lt
              have ne_xt_xk : V4.heap.size ≠ V3.heap.size := Nat.ne_of_gt xk.lt
              have le_xt : W.heap.size ≤ V4.heap.size := hB.size
              replace xs := xs.alloc (.cells #[.int .i64 0, .bool false, .bool false, .int .i64 0, .int .i64 0, .int .i64 0] 23)
              replace xk := xk.alloc (.cells #[.int .i64 0, .bool false, .bool false, .int .i64 0, .int .i64 0, .int .i64 0] 23)
              replace hB := hB.alloc hB.size (.cells #[.int .i64 0, .bool false, .bool false, .int .i64 0, .int .i64 0, .int .i64 0] 23)
              obtain ⟨xs0, xsz0, xs1, xsz1, xs2, xsz2, xs3, xsz3, xs4, xsz4, xs5, xsz5⟩ := xs.f6
              obtain ⟨xk0, xkz0, xk1, xkz1, xk2, xkz2, xk3, xkz3, xk4, xkz4, xk5, xkz5, xk6, xkz6⟩ := xk.f7
              obtain ⟨xt0, xtz0, xt1, xtz1, xt2, xtz2, xt3, xtz3, xt4, xtz4, xt5, xtz5⟩ := xt.f6
              go_wp2_with fail
              refine (T2.out _).mono ?_
              rintro e V5 ⟨rfl, hk⟩
              clear xs0 xsz0 xs1 xsz1 xs2 xsz2 xs3 xsz3 xs4 xsz4 xs5 xsz5 xk0 xkz0 xk1 xkz1 xk2 xkz2 xk3 xkz3 xk4 xkz4 xk5 xkz5 xk6 xkz6 xt0 xtz0 xt1 xtz1 xt2 xtz2 xt3 xtz3 xt4 xtz4 xt5 xtz5
              replace hB := below_seq hB hk
              replace xs := xs.seq hk
              replace xk := xk.seq hk
              replace xt := xt.seq hk
              clear hk
              have xu := Box.new 23 V5 [.int .i64 0, .bool false, .bool false, .int .i64 0, .int .i64 0, .int .i64 0]
              have ne_xu_xs : V5.heap.size ≠ W.heap.size := Nat.ne_of_gt xs.lt
              have ne_xu_xk : V5.heap.size ≠ V3.heap.size := Nat.ne_of_gt xk.lt
              have ne_xu_xt : V5.heap.size ≠ V4.heap.size := Nat.ne_of_gt xt.lt
              have le_xu : W.heap.size ≤ V5.heap.size := hB.size
              replace xs := xs.alloc (.cells #[.int .i64 0, .bool false, .bool false, .int .i64 0, .int .i64 0, .int .i64 0] 23)
              replace xk := xk.alloc (.cells #[.int .i64 0, .bool false, .bool false, .int .i64 0, .int .i64 0, .int .i64 0] 23)
              replace xt := xt.alloc (.cells #[.int .i64 0, .bool false, .bool false, .int .i64 0, .int .i64 0, .int .i64 0] 23)
              replace hB := hB.alloc hB.size (.cells #[.int .i64 0, .bool false, .bool false, .int .i64 0, .int .i64 0, .int .i64 0] 23)
              obtain ⟨xs0, xsz0, xs1, xsz1, xs2, xsz2, xs3, xsz3, xs4, xsz4, xs5, xsz5⟩ := xs.f6
              obtain ⟨xk0, xkz0, xk1, xkz1, xk2, xkz2, xk3, xkz3, xk4, xkz4, xk5, xkz5, xk6, xkz6⟩ := xk.f7
              obtain ⟨xt0, xtz0, xt1, xtz1, xt2, xtz2, xt3, xtz3, xt4, xtz4, xt5, xtz5⟩ := xt.f6
              obtain ⟨xu0, xuz0, xu1, xuz1, xu2, xuz2, xu3, xuz3, xu4, xuz4, xu5, xuz5⟩ := xu.f6
              go_wp2
              go_ret
              exact ⟨rfl, hB⟩


set_option maxRecDepth 100000 in
set_option maxHeartbeats 8000000 in
theorem walk (s : St) (bit : UInt8) (mode : UInt8) (W : World) (hs : s.ok) :
    Calls Try.prog 7 #[.agg #[.int .i64 s.mode, .bool s.armed, .bool s.home, .int .i64 s.lat, .int .i64 s.lon, .int .i64 s.iso], .int .u8 (bit.toNat : Int), .int .u8 (mode.toNat : Int)] W fun e W' => e = .returned (.bool true) ∧ Below W.heap.size W W' := by
  by_cases h : Legal s
  · obtain ⟨k, hk⟩ : ∃ k, [61, 62, 63, 52, 53, 54, 55][bit.toNat % 7]? = some k := ⟨_, List.getElem?_eq_getElem (show bit.toNat % 7 < 7 from Nat.mod_lt _ (by decide))⟩
    exact spareIn s.mode s.armed s.home s.lat s.lon s.iso bit mode k _ (packN s) W (packN_lt s) hk rfl (fun V => by have h1 := own14Legal s V hs; rwa [(legal_iff s).2 h] at h1) (fun V => own14Pack s V hs)
  · skip
    have nl : legalB s = false := by { cases c : legalB s; rfl; exact absurd ((legal_iff s).1 c) h }
    have TL := fun (V : World) => own14Legal s V hs
    simp only [nl] at TL
    replace TL := Lib.hid TL
    clear nl h
    have hB : Below W.heap.size W (W.alloc (.cells #[.int .i64 s.mode, .bool s.armed, .bool s.home, .int .i64 s.lat, .int .i64 s.lon, .int .i64 s.iso] 23)) := ((Below.refl _ _).alloc (Nat.le_refl _) _)
    have xs := (Box.new 23 W [.int .i64 s.mode, .bool s.armed, .bool s.home, .int .i64 s.lat, .int .i64 s.lon, .int .i64 s.iso])
    go_enter Try.func7, Try.ntmps7
    obtain ⟨xs0, xsz0, xs1, xsz1, xs2, xsz2, xs3, xsz3, xs4, xsz4, xs5, xsz5⟩ := xs.f6
    go_wp2_with fail
    refine (TL.out _).mono ?_
    rintro e V1 ⟨rfl, hk⟩
    clear xs0 xsz0 xs1 xsz1 xs2 xsz2 xs3 xsz3 xs4 xsz4 xs5 xsz5
    replace hB := below_seq hB hk
    replace xs := xs.seq hk
    clear hk
    obtain ⟨xs0, xsz0, xs1, xsz1, xs2, xsz2, xs3, xsz3, xs4, xsz4, xs5, xsz5⟩ := xs.f6
    go_wp2_with fail
    refine (shown14 _).mono ?_
    rintro e V2 ⟨rfl, hk⟩
    clear xs0 xsz0 xs1 xsz1 xs2 xsz2 xs3 xsz3 xs4 xsz4 xs5 xsz5
    replace hB := below_seq hB hk
    replace xs := xs.seq hk
    clear hk
    obtain ⟨xs0, xsz0, xs1, xsz1, xs2, xsz2, xs3, xsz3, xs4, xsz4, xs5, xsz5⟩ := xs.f6
    go_wp2
    go_ret
    exact ⟨rfl, hB⟩

theorem own : ownKnob Try.prog.godebug = none := by kernel_rfl

set_option maxRecDepth 100000 in
theorem lifted (os : Os) (started : os.Started) (H : Type) (enc : TypeId × Value → H) :
    ReturnsInHanded {} Try.checked os 7 .any (Rows.stateSpareSpec.pre6 enc Try.prog Try.f7 Rows.stateSpareRow.domain false) (Rows.stateSpareSpec.post enc Try.prog Try.f7 false true false false) := by
  refine returnsInHanded_of_change (C := Try.checked) own started (by kernel_rfl) Try.func7
    (ChangeSpec.witness6 (enc := enc) (C := Try.checked) false ⟨#[], #[.agg #[.int .i64 0, .bool false, .bool false, .int .i64 0, .int .i64 0, .int .i64 0], .int .u8 0, .int .u8 0], []⟩ 8 (by kernel_rfl) (by kernel_rfl) (by kernel_rfl) (by kernel_rfl)) ?_
  intro W base args ds gs before hval hW _ _
  have hW' := hW
  obtain ⟨p, q, hA0, hV, rfl, hfz, hnd⟩ := hW
  have hA : DataW.TrodAll enc Try.prog W 0 (fun _ => true) true Try.f7.params.toList args.toList ds p := hA0
  rw [Try.params7] at hA hval
  obtain ⟨v0, vs0, d0, ds0, p0, q0, hargs, rfl, rfl, h0, r0⟩ := trodAll_cons hA
  obtain ⟨v1, vs1, d1, ds1, p1, q1, rfl, rfl, rfl, h1, r1⟩ := trodAll_cons r0
  obtain ⟨v2, vs2, d2, ds2, p2, q2, rfl, rfl, rfl, h2, r2⟩ := trodAll_cons r1
  obtain ⟨rfl, rfl, rfl⟩ := trodAll_nil r2
  obtain rfl : args = #[v0, v1, v2] := by cases args; simp_all
  obtain ⟨rfl, rfl⟩ := trodVars_none hV
  have k0 := h0
  obtain ⟨s0, rfl, hs0⟩ := open_st (hval 0 23 v0 rfl rfl) h0
  obtain ⟨a1, rfl, rfl, rfl, w1⟩ := open_int Try.underlying5 (hval 1 5 v1 rfl rfl) h1
  obtain ⟨c1, rfl⟩ := int_u8 w1
  obtain ⟨a2, rfl, rfl, rfl, w2⟩ := open_int Try.underlying5 (hval 2 5 v2 rfl rfl) h2
  obtain ⟨c2, rfl⟩ := int_u8 w2
  clear hA0
  simp only [List.append_nil] at hW'
  refine (walk s0 c1 c2 W hs0).mono fun e W' ⟨he, hB⟩ => ?_
  subst he
  exact ⟨_, rfl, ⟨_, _, _, [], _, [], hW', trodAll_cons_mk (shut_bool Try.underlying4 _) trodAll_mk0, (trodAll_cons_mk (Below.trod Try.laidOut (by kernel_rfl) (of_decide_eq_true (by kernel_rfl)) k0 hB (fun x hx => by simpa using hW'.lt x (by simp [hx]))) (trodAll_cons_mk (shut_int Try.underlying5 w1) (trodAll_cons_mk (shut_int Try.underlying5 w2) trodAll_mk0))), rfl, hB.frame _, fun h => by cases h⟩⟩

theorem holds : Rows.StateSpareSaid :=
  OpenClaim.holds_of_wide 7 Try.f7 rfl rfl rfl rfl rfl rfl rfl ⟨rfl, rfl, rfl, rfl, rfl⟩ rfl rfl rfl rfl rfl (by kernel_rfl) Try.func7 (by kernel_rfl)
    (of_decide_eq_true (by kernel_rfl)) (by unfold Func.isWrapper; first | (rw [if_pos (by decide +kernel)]; kernel_rfl) | (rw [if_neg (by decide +kernel)]; exact ⟨rfl, rfl⟩))
    (fun os started H enc _ => lifted os started H enc)
end Go.Proofs.Ytkdadjojahfmeaa.StateSpare

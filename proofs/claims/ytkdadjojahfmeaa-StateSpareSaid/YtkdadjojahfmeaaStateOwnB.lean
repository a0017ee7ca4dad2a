/- The program's Pack: contracts only. -/
import Derived.Test.YtkdadjojahfmeaaStateOwnA
import Derived.WalkKit
import Derived.ProofKit
import Derived.OpenShut
import Derived.ChangeMaps5
import Derived.Carry
import Derived.OwnWalk
import Derived.Lib.Hide
import Derived.Deep.RegionHeld3
import Derived.Deep.CutRange
import Derived.WalkLawsBesides
import Derived.WalkSpells
import Derived.IntWalk
namespace Go.Proofs.Ytkdadjojahfmeaa
open Go.RowKit
set_option linter.unusedVariables false
set_option linter.unusedSimpArgs false

set_option maxRecDepth 100000 in
set_option maxHeartbeats 8000000 in
theorem own14bit (b : Bool) (W : World) : Calls Try.prog 25 #[.bool b] W fun e W' => e = .returned (.int .u64 ((b.toNat : Nat) : Int)) ∧ W' = W := by
  cases b
  · go_enter Try.func25, Try.ntmps25
    go_wp2
    go_ret
    exact ⟨rfl, rfl⟩
  · go_enter Try.func25, Try.ntmps25
    go_wp2
    go_ret
    exact ⟨rfl, rfl⟩

/-- Two numbers whose bits lie apart. -/
theorem or_low {x y k : Nat} (h : y < 2 ^ k) (hl : x * 2 ^ k + y < 18446744073709551616) : bits .or .u64 ((x * 2 ^ k : Nat) : Int) (y : Int) = ((x * 2 ^ k + y : Nat) : Int) := by
  rw [u64_or_nat _ _ (by omega) (by omega), Nat.mul_comm, Nat.two_pow_add_eq_or_of_lt h]
theorem or_high {x y k : Nat} (h : y < 2 ^ k) (hl : x * 2 ^ k + y < 18446744073709551616) : bits .or .u64 (y : Int) ((x * 2 ^ k : Nat) : Int) = ((x * 2 ^ k + y : Nat) : Int) := by
  rw [u64_or_nat _ _ (by omega) (by omega), Nat.or_comm, Nat.mul_comm, Nat.two_pow_add_eq_or_of_lt h]
theorem u64_wrapO (x : Int) : IntKind.u64.wrap x = x % 18446744073709551616 := by simp [IntKind.wrap, IntKind.signed, IntKind.bits]
theorem and_low24 (v : Int) : bits .and .u64 (IntKind.u64.wrap v) 16777215 = ((low24 v : Nat) : Int) := by
  have h1 := u64_and_nat (u64N v) 16777215 (u64N_lt v) (by decide)
  have h2 : u64N v &&& 16777215 = u64N v % 16777216 := Nat.and_two_pow_sub_one_eq_mod _ 24
  rw [h2, show u64N v % 16777216 = low24 v from by unfold u64N low24; omega] at h1
  rw [u64_wrapO, ← u64N_cast]; exact h1

theorem pack_or {m a h i p q : Nat} (hm : m ≤ 5) (ha : a ≤ 1) (hh : h ≤ 1) (hi : i ≤ 15) (hp : p < 16777216) (hq : q < 16777216) :
    bits .or .u64 (bits .or .u64 (bits .or .u64 (bits .or .u64 (bits .or .u64 (IntKind.u64.wrap (IntKind.u64.wrap (m : Int) * 72057594037927936)) (IntKind.u64.wrap ((a : Int) * 576460752303423488))) (IntKind.u64.wrap ((h : Int) * 1152921504606846976))) (IntKind.u64.wrap (IntKind.u64.wrap (i : Int) * 281474976710656))) (IntKind.u64.wrap ((p : Int) * 16777216))) (IntKind.u64.wrap (q : Int)) = (((h * 16 + (a * 8 + m)) * 72057594037927936 + i * 281474976710656 + p * 16777216 + q : Nat) : Int) := by
  have e1 : IntKind.u64.wrap (IntKind.u64.wrap (m : Int) * 72057594037927936) = ((m * 2 ^ 56 : Nat) : Int) := by rw [u64_wrapO, u64_wrapO]; omega
  have e2 : IntKind.u64.wrap ((a : Int) * 576460752303423488) = ((a * 2 ^ 59 : Nat) : Int) := by rw [u64_wrapO]; omega
  have e3 : IntKind.u64.wrap ((h : Int) * 1152921504606846976) = ((h * 2 ^ 60 : Nat) : Int) := by rw [u64_wrapO]; omega
  have e4 : IntKind.u64.wrap (IntKind.u64.wrap (i : Int) * 281474976710656) = ((i * 2 ^ 48 : Nat) : Int) := by rw [u64_wrapO, u64_wrapO]; omega
  have e5 : IntKind.u64.wrap ((p : Int) * 16777216) = ((p * 2 ^ 24 : Nat) : Int) := by rw [u64_wrapO]; omega
  have e6 : IntKind.u64.wrap (q : Int) = (q : Int) := by rw [u64_wrapO]; omega
  rw [e1, e2, e3, e4, e5, e6, or_high (k := 59) (by omega) (by omega), or_high (k := 60) (by omega) (by omega),
    show h * 2 ^ 60 + (a * 2 ^ 59 + m * 2 ^ 56) = (h * 16 + (a * 8 + m)) * 2 ^ 56 from by omega, or_low (k := 56) (by omega) (by omega),
    show (h * 16 + (a * 8 + m)) * 2 ^ 56 + i * 2 ^ 48 = ((h * 16 + (a * 8 + m)) * 256 + i) * 2 ^ 48 from by omega, or_low (k := 48) (by omega) (by omega),
    show ((h * 16 + (a * 8 + m)) * 256 + i) * 2 ^ 48 + p * 2 ^ 24 = (((h * 16 + (a * 8 + m)) * 256 + i) * 16777216 + p) * 2 ^ 24 from by omega, or_low (k := 24) (by omega) (by omega)]

set_option maxRecDepth 100000 in
set_option maxHeartbeats 8000000 in
theorem own14PackNot (s : St) (W : World) (hs : s.ok) (h : legalB s = false) : Gives Try.prog 13 #[.agg #[.int .i64 s.mode, .bool s.armed, .bool s.home, .int .i64 s.lat, .int .i64 s.lon, .int .i64 s.iso]] W (.int .u64 ((packN s : Nat) : Int)) := by
  have TL := fun (V : World) => own14Legal s V hs
  simp only [h] at TL
  replace TL := Lib.hid TL
  rw [packN_not h]
  clear h hs
  have st := Bs.in1 W 23 [.int .i64 s.mode, .bool s.armed, .bool s.home, .int .i64 s.lat, .int .i64 s.lon, .int .i64 s.iso]
  go_enter Try.func13, Try.ntmps13
  have fc0 := (st.box 0 rfl).f6
  go_wp2_with fail; refine callB st (TL.out _) ?_; clear st fc0; intro V1 st
  have fc0 := (st.box 0 rfl).f6
  go_wp2; go_ret; exact ⟨rfl, st.lo⟩

set_option maxRecDepth 100000 in
set_option maxHeartbeats 8000000 in
theorem own14PackYes (m i : Nat) (armed home : Bool) (lat lon : Int) (W : World) (hl : Legal ⟨(m : Int), armed, home, lat, lon, (i : Int)⟩) : Gives Try.prog 13 #[.agg #[.int .i64 (m : Int), .bool armed, .bool home, .int .i64 lat, .int .i64 lon, .int .i64 (i : Int)]] W (.int .u64 ((packN ⟨(m : Int), armed, home, lat, lon, (i : Int)⟩ : Nat) : Int)) := by
  have TL := fun (V : World) => own14Legal _ V (legal_ok hl)
  simp only [(legal_iff _).2 hl] at TL
  replace TL := Lib.hid TL
  have hp := packN_legal hl
  have hm := hl.m
  have hi := hl.i
  dsimp only at hm hi
  have ha := armed.toNat_le
  have hh := home.toNat_le
  have h3 := low_lt lat
  have h4 := low_lt lon
  have B1 := Lib.hid (fun (V : World) => own14bit armed V)
  have B2 := Lib.hid (fun (V : World) => own14bit home V)
  have hf : firstN ⟨(m : Int), armed, home, lat, lon, (i : Int)⟩ = home.toNat * 16 + (armed.toNat * 8 + m) := by unfold firstN; cases armed <;> cases home <;> simp <;> omega
  have hp2 : packN ⟨(m : Int), armed, home, lat, lon, (i : Int)⟩ = (home.toNat * 16 + (armed.toNat * 8 + m)) * 72057594037927936 + i * 281474976710656 + low24 lat * 16777216 + low24 lon := by rw [hp]; unfold packL; rw [hf]; simp
  rw [hp2]
  have a1 := and_low24 lat
  have a2 := and_low24 lon
  clear hp hf hp2 hl
  generalize low24 lat = p at *
  generalize low24 lon = q at *
  generalize armed.toNat = a at *
  generalize home.toNat = h at *
  have HF := Lib.hid (pack_or (by omega : m ≤ 5) ha hh (by omega : i ≤ 15) h3 h4)
  clear ha hh h3 h4 hm hi
  have st := Bs.in1 W 23 [.int .i64 (m : Int), .bool armed, .bool home, .int .i64 lat, .int .i64 lon, .int .i64 (i : Int)]
  go_enter Try.func13, Try.ntmps13
  have fc0 := (st.box 0 rfl).f6
  go_wp2_with fail; refine callB st (TL.out _) ?_; clear st fc0; intro V1 st
  have fc0 := (st.box 0 rfl).f6
  go_wp2_with fail
  clear fc0
  replace st := st.drew
  refine rh (fun w => C6 w (W.heap.size) (.int .i64 (m : Int)) (.bool armed) (.bool home) (.int .i64 lat) (.int .i64 lon) (.int .i64 (i : Int))) ((st.box 0 rfl).c6) fun hHeld => ?_
  generalize V1.drew = V2 at *
  refine tq 0 ?_; refine tq 1 ?_; refine tq 2 ?_; refine tq 3 ?_; refine tq 4 ?_; refine tq 5 ?_; refine tq 9 ?_; refine tq 10 ?_; refine tq 14 ?_; refine tq 15 ?_; refine tq 16 ?_; refine tq 17 ?_; refine tq 19 ?_; refine tq 20 ?_; refine tq 21 ?_; refine tq 22 ?_; refine tq 23 ?_; refine tq 25 ?_; refine tq 26 ?_; refine tq 27 ?_; refine tq 28 ?_; refine tq 29 ?_
  try simp only [Act.put, l1, l2, l3, l4, l5, l6]
  refine rd 6 fun K hK => ?_
  have fc0 := (st.box 0 rfl).f6
  go_simp
  refine callQ (B1.out _) ?_
  try go_wp2_with fail
  clear hHeld fc0; refine hK.out _ _ ((st.box 0 rfl).c6) fun hHeld => ?_; clear hK K
  try simp only [Act.put, l1, l2, l3, l4, l5, l6]
  refine tq 7 ?_; refine tq 8 ?_
  try simp only [Act.put, l1, l2, l3, l4, l5, l6]
  refine rd 11 fun K hK => ?_
  have fc0 := (st.box 0 rfl).f6
  go_simp
  refine callQ (B2.out _) ?_
  try go_wp2_with fail
  clear hHeld fc0; refine hK.out _ _ ((st.box 0 rfl).c6) fun hHeld => ?_; clear hK K
  try simp only [Act.put, l1, l2, l3, l4, l5, l6]
  refine tq 12 ?_; refine tq 13 ?_; refine tq 18 ?_; refine tq 24 ?_; refine tq 30 ?_; refine tq 31 ?_
  try simp only [Act.put, l1, l2, l3, l4, l5, l6]
  refine wpAnyH_done (by kernel_rfl) ?_ _; clear hHeld
  have fc0 := (st.box 0 rfl).f6
  go_wp2; go_ret; exact ⟨ret_int HF.out, st.lo⟩

theorem own14Pack (s : St) (W : World) (hs : s.ok) : Gives Try.prog 13 #[.agg #[.int .i64 s.mode, .bool s.armed, .bool s.home, .int .i64 s.lat, .int .i64 s.lon, .int .i64 s.iso]] W (.int .u64 ((packN s : Nat) : Int)) := by
  by_cases h : Legal s
  · have e1 : ((s.mode.toNat : Nat) : Int) = s.mode := Int.toNat_of_nonneg h.m.1
    have e2 : ((s.iso.toNat : Nat) : Int) = s.iso := Int.toNat_of_nonneg h.i.1
    have k := own14PackYes s.mode.toNat s.iso.toNat s.armed s.home s.lat s.lon W (by rw [e1, e2]; exact h)
    rw [e1, e2] at k
    exact k
  · exact own14PackNot s W hs (own_not_legal h)

end Go.Proofs.Ytkdadjojahfmeaa

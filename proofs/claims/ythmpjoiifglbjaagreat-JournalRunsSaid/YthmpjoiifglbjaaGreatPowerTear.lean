/- The program's own Tear: contracts only. -/
import Derived.Test.YthmpjoiifglbjaaGreatPowerDo
import Derived.WalkKit
import Derived.ProofKit
import Derived.OwnWalk
import Derived.Lib.Hide
import Derived.BigQuiet
import Derived.Deep.QuietTactic
import Derived.Deep.RegionHeld3
import Derived.IntWalk
import Derived.WalkLawsBesides
namespace Go.Proofs.YthmpjoiifglbjaaGreat
open Go.RowKit
set_option linter.unusedVariables false
set_option linter.unusedSimpArgs false

set_option maxRecDepth 100000 in
set_option maxHeartbeats 4000000 in
theorem pwTear1_0 (f : Fl) (p : Nat) (d m : ByteArray) (W : World) (hf : f.fit) (hd : d.size ≤ maxLen) (hm : m.size ≤ maxLen) (he : progErr f 0 (p : Int) d = 0) (hb : p + d.size ≤ f.b0.size) :
    Gives Tryz.prog 39 #[.agg #[.string f.b0, .string f.b1, .int .i64 f.e0, .int .i64 f.e1, .int .i64 f.lim], .agg #[.int .i64 1, .int .i64 0, .int .i64 (p : Int), .string d], .string m] W (.tuple #[.agg #[.string (spliceT f.b0 p d m), .string f.b1, .int .i64 f.e0, .int .i64 f.e1, .int .i64 f.lim], .int .i64 0]) := by
  have hs : f.b0.size ≤ 140737488351232 := hf.z0
  have TD := Lib.hid (fun (W : World) => (show Gives Tryz.prog 38 #[.agg #[.string f.b0, .string f.b1, .int .i64 f.e0, .int .i64 f.e1, .int .i64 f.lim], .agg #[.int .i64 1, .int .i64 0, .int .i64 (p : Int), .string d]] W (.tuple #[.agg #[.string (progF f 0 (p : Int) d).b0, .string (progF f 0 (p : Int) d).b1, .int .i64 (progF f 0 (p : Int) d).e0, .int .i64 (progF f 0 (p : Int) d).e1, .int .i64 (progF f 0 (p : Int) d).lim], .int .i64 0]) from by have h := pwDo1 f 0 (p : Int) d W hf hd (by omega); rwa [he] at h))
  generalize progF f 0 (p : Int) d = g at *
  have TC := Lib.hid (fun (W : World) => clrTorn (f.b0.extract p (p + d.size)) d m W (by simp; omega) (by unfold maxLen; omega) hm)
  have HS := (show spliceT f.b0 p d m = f.b0.extract 0 p ++ tornB (f.b0.extract p (p + d.size)) d m ++ f.b0.extract (p + d.size) f.b0.size from rfl)
  have zA : (tornB (f.b0.extract p (p + d.size)) d m).size ≤ f.b0.size := by rw [tornB_size]; simp; omega
  rw [HS]
  clear HS he
  generalize tornB (f.b0.extract p (p + d.size)) d m = A at *
  have g1 : ¬ 9223372036854775807 < p + A.size := by omega
  have g2 : ¬ 9223372036854775807 < p + A.size + (f.b0.size - (p + d.size)) := by omega
  have g3 : ¬ 9223372036854775807 < min p f.b0.size + A.size := by omega
  have g4 : ¬ 9223372036854775807 < min p f.b0.size + A.size + (f.b0.size - (p + d.size)) := by omega
  have i1 : (p : Int) ≤ (f.b0.size : Int) := by omega
  have i3 : (p : Int) + (d.size : Int) ≤ (f.b0.size : Int) := by omega
  have i4 : (0 : Int) ≤ (p : Int) + (d.size : Int) := by omega
  have i5 : ((p : Int) + (d.size : Int)).toNat = p + d.size := by omega
  have i7 : p ≤ f.b0.size := by omega
  have i9 : (0 : Int) ≤ (p : Int) := by omega
  have i6 : (p : Int) ≤ (p : Int) + (d.size : Int) := by omega
  have w1 : IntKind.i64.wrap ((p : Int) + (d.size : Int)) = (p : Int) + (d.size : Int) := IntWalk.i64_in _ (by omega)
  have st := Bs.in3 W 25 [.string f.b0, .string f.b1, .int .i64 f.e0, .int .i64 f.e1, .int .i64 f.lim] 95 [.int .i64 1, .int .i64 0, .int .i64 (p : Int), .string d] 25 [.string ⟨#[]⟩, .string ⟨#[]⟩, .int .i64 0, .int .i64 0, .int .i64 0]
  go_enter Tryz.func39, Tryz.ntmps39
  go_wp2_with fail; refine callB st (TD.out _) ?_; clear st; intro V1 st
  replace st := st.alloc 25 [.string g.b0, .string g.b1, .int .i64 g.e0, .int .i64 g.e1, .int .i64 g.lim]
  have fc := And.intro (st.box 3 rfl).f5 (And.intro (st.box 2 rfl).f4 (And.intro (st.box 1 rfl).f5 (st.box 0 rfl).f5))
  go_wp2_with fail
  clear fc
  replace st := st.name; obtain ⟨V2, hV, st⟩ := st; rw [hV]; clear hV
  have fc := And.intro (st.box 3 rfl).f5 (And.intro (st.box 2 rfl).f4 (And.intro (st.box 1 rfl).f5 (st.box 0 rfl).f5))
  go_quiet (fail)
  clear fc
  replace st := st.drewN nq
  generalize (V2.drewN nq) = V3 at *
  have fc := And.intro (st.box 3 rfl).f5 (And.intro (st.box 2 rfl).f4 (And.intro (st.box 1 rfl).f5 (st.box 0 rfl).f5))
  go_wp2_with fail
  clear fc
  replace st := st.drew
  refine rh (fun w => C4 w (W.heap.size + 1) (.int .i64 1) (.int .i64 0) (.int .i64 (p : Int)) (.string d)) ((st.box 2 rfl).c4) fun hHeld => ?_
  generalize V3.drew = V4 at *
  refine tq 0 ?_; refine tq 1 ?_; refine tq 2 ?_; refine tq 3 ?_; refine tq 4 ?_; refine tq 5 ?_; refine tq 6 ?_; refine tq 7 ?_; refine tq 8 ?_; refine tq 9 ?_; refine tq 10 ?_; refine tq 11 ?_; refine tq 12 ?_; refine tq 13 ?_; refine tq 16 ?_; refine tq 17 ?_; refine tq 18 ?_; refine tq 20 ?_
  try simp only [Act.put, l1, l2, l3, l4, l5, l6]
  refine rd 14 fun K hK => ?_
  have fc := And.intro (st.box 3 rfl).f5 (And.intro (st.box 2 rfl).f4 (And.intro (st.box 1 rfl).f5 (st.box 0 rfl).f5))
  go_simp
  refine (TC.out _).mono ?_
  rintro e V5 ⟨rfl, hk⟩
  clear fc
  replace st := st.seq hk
  clear hk
  have fc := And.intro (st.box 3 rfl).f5 (And.intro (st.box 2 rfl).f4 (And.intro (st.box 1 rfl).f5 (st.box 0 rfl).f5))
  try go_wp2_with fail
  clear hHeld fc; refine hK.out _ _ ((st.box 2 rfl).c4) fun hHeld => ?_; clear hK K
  try simp only [Act.put, l1, l2, l3, l4, l5, l6]
  refine tq 15 ?_; refine tq 19 ?_; refine tq 21 ?_
  try simp only [Act.put, l1, l2, l3, l4, l5, l6]
  refine rd 22 fun K hK => ?_
  have fc := And.intro (st.box 3 rfl).f5 (And.intro (st.box 2 rfl).f4 (And.intro (st.box 1 rfl).f5 (st.box 0 rfl).f5))
  go_simp
  try go_wp2_with fail
  clear fc
  replace st := (st.set 3 0 (.string (f.b0.extract 0 p ++ A ++ f.b0.extract (p + d.size) f.b0.size)) rfl).name; obtain ⟨V6, hV, st⟩ := st; rw [hV]; clear hV
  clear hHeld; refine hK.out _ _ ((st.box 2 rfl).c4) fun hHeld => ?_; clear hK K
  try simp only [Act.put, l1, l2, l3, l4, l5, l6]
  refine wpAnyH_done (by kernel_rfl) ?_ _; clear hHeld
  have fc := And.intro (st.box 3 rfl).f5 (And.intro (st.box 2 rfl).f4 (And.intro (st.box 1 rfl).f5 (st.box 0 rfl).f5))
  go_wp2
  clear fc
  replace st := st.put5 1 (.string (f.b0.extract 0 p ++ A ++ f.b0.extract (p + d.size) f.b0.size)) (.string f.b1) (.int .i64 f.e0) (.int .i64 f.e1) (.int .i64 f.lim) rfl; obtain ⟨V7, hV, st⟩ := st; rw [hV]; clear hV
  have fc := And.intro (st.box 3 rfl).f5 (And.intro (st.box 2 rfl).f4 (And.intro (st.box 1 rfl).f5 (st.box 0 rfl).f5))
  exact bodyPost_ret (v := .tuple #[.agg #[.string (f.b0.extract 0 p ++ A ++ f.b0.extract (p + d.size) f.b0.size), .string f.b1, .int .i64 f.e0, .int .i64 f.e1, .int .i64 f.lim], .int .i64 0]) (by simp [results, Tryz.results39, go_sem, fc]) rfl ⟨rfl, st.lo⟩

set_option maxRecDepth 100000 in
set_option maxHeartbeats 4000000 in
theorem pwTear1_1 (f : Fl) (p : Nat) (d m : ByteArray) (W : World) (hf : f.fit) (hd : d.size ≤ maxLen) (hm : m.size ≤ maxLen) (he : progErr f 1 (p : Int) d = 0) (hb : p + d.size ≤ f.b1.size) :
    Gives Tryz.prog 39 #[.agg #[.string f.b0, .string f.b1, .int .i64 f.e0, .int .i64 f.e1, .int .i64 f.lim], .agg #[.int .i64 1, .int .i64 1, .int .i64 (p : Int), .string d], .string m] W (.tuple #[.agg #[.string f.b0, .string (spliceT f.b1 p d m), .int .i64 f.e0, .int .i64 f.e1, .int .i64 f.lim], .int .i64 0]) := by
  have hs : f.b1.size ≤ 140737488351232 := hf.z1
  have TD := Lib.hid (fun (W : World) => (show Gives Tryz.prog 38 #[.agg #[.string f.b0, .string f.b1, .int .i64 f.e0, .int .i64 f.e1, .int .i64 f.lim], .agg #[.int .i64 1, .int .i64 1, .int .i64 (p : Int), .string d]] W (.tuple #[.agg #[.string (progF f 1 (p : Int) d).b0, .string (progF f 1 (p : Int) d).b1, .int .i64 (progF f 1 (p : Int) d).e0, .int .i64 (progF f 1 (p : Int) d).e1, .int .i64 (progF f 1 (p : Int) d).lim], .int .i64 0]) from by have h := pwDo1 f 1 (p : Int) d W hf hd (by omega); rwa [he] at h))
  generalize progF f 1 (p : Int) d = g at *
  have TC := Lib.hid (fun (W : World) => clrTorn (f.b1.extract p (p + d.size)) d m W (by simp; omega) (by unfold maxLen; omega) hm)
  have HS := (show spliceT f.b1 p d m = f.b1.extract 0 p ++ tornB (f.b1.extract p (p + d.size)) d m ++ f.b1.extract (p + d.size) f.b1.size from rfl)
  have zA : (tornB (f.b1.extract p (p + d.size)) d m).size ≤ f.b1.size := by rw [tornB_size]; simp; omega
  rw [HS]
  clear HS he
  generalize tornB (f.b1.extract p (p + d.size)) d m = A at *
  have g1 : ¬ 9223372036854775807 < p + A.size := by omega
  have g2 : ¬ 9223372036854775807 < p + A.size + (f.b1.size - (p + d.size)) := by omega
  have g3 : ¬ 9223372036854775807 < min p f.b1.size + A.size := by omega
  have g4 : ¬ 9223372036854775807 < min p f.b1.size + A.size + (f.b1.size - (p + d.size)) := by omega
  have i1 : (p : Int) ≤ (f.b1.size : Int) := by omega
  have i3 : (p : Int) + (d.size : Int) ≤ (f.b1.size : Int) := by omega
  have i4 : (0 : Int) ≤ (p : Int) + (d.size : Int) := by omega
  have i5 : ((p : Int) + (d.size : Int)).toNat = p + d.size := by omega
  have i7 : p ≤ f.b1.size := by omega
  have i9 : (0 : Int) ≤ (p : Int) := by omega
  have i6 : (p : Int) ≤ (p : Int) + (d.size : Int) := by omega
  have w1 : IntKind.i64.wrap ((p : Int) + (d.size : Int)) = (p : Int) + (d.size : Int) := IntWalk.i64_in _ (by omega)
  have st := Bs.in3 W 25 [.string f.b0, .string f.b1, .int .i64 f.e0, .int .i64 f.e1, .int .i64 f.lim] 95 [.int .i64 1, .int .i64 1, .int .i64 (p : Int), .string d] 25 [.string ⟨#[]⟩, .string ⟨#[]⟩, .int .i64 0, .int .i64 0, .int .i64 0]
  go_enter Tryz.func39, Tryz.ntmps39
  go_wp2_with fail; refine callB st (TD.out _) ?_; clear st; intro V1 st
  replace st := st.alloc 25 [.string g.b0, .string g.b1, .int .i64 g.e0, .int .i64 g.e1, .int .i64 g.lim]
  have fc := And.intro (st.box 3 rfl).f5 (And.intro (st.box 2 rfl).f4 (And.intro (st.box 1 rfl).f5 (st.box 0 rfl).f5))
  go_wp2_with fail
  clear fc
  replace st := st.name; obtain ⟨V2, hV, st⟩ := st; rw [hV]; clear hV
  have fc := And.intro (st.box 3 rfl).f5 (And.intro (st.box 2 rfl).f4 (And.intro (st.box 1 rfl).f5 (st.box 0 rfl).f5))
  go_quiet (fail)
  clear fc
  replace st := st.drewN nq
  generalize (V2.drewN nq) = V3 at *
  have fc := And.intro (st.box 3 rfl).f5 (And.intro (st.box 2 rfl).f4 (And.intro (st.box 1 rfl).f5 (st.box 0 rfl).f5))
  go_wp2_with fail
  clear fc
  replace st := st.drew
  refine rh (fun w => C4 w (W.heap.size + 1) (.int .i64 1) (.int .i64 1) (.int .i64 (p : Int)) (.string d)) ((st.box 2 rfl).c4) fun hHeld => ?_
  generalize V3.drew = V4 at *
  refine tq 0 ?_; refine tq 1 ?_; refine tq 2 ?_; refine tq 3 ?_; refine tq 4 ?_; refine tq 5 ?_; refine tq 6 ?_; refine tq 7 ?_; refine tq 8 ?_; refine tq 9 ?_; refine tq 10 ?_; refine tq 11 ?_; refine tq 12 ?_; refine tq 13 ?_; refine tq 16 ?_; refine tq 17 ?_; refine tq 18 ?_; refine tq 20 ?_
  try simp only [Act.put, l1, l2, l3, l4, l5, l6]
  refine rd 14 fun K hK => ?_
  have fc := And.intro (st.box 3 rfl).f5 (And.intro (st.box 2 rfl).f4 (And.intro (st.box 1 rfl).f5 (st.box 0 rfl).f5))
  go_simp
  refine (TC.out _).mono ?_
  rintro e V5 ⟨rfl, hk⟩
  clear fc
  replace st := st.seq hk
  clear hk
  have fc := And.intro (st.box 3 rfl).f5 (And.intro (st.box 2 rfl).f4 (And.intro (st.box 1 rfl).f5 (st.box 0 rfl).f5))
  try go_wp2_with fail
  clear hHeld fc; refine hK.out _ _ ((st.box 2 rfl).c4) fun hHeld => ?_; clear hK K
  try simp only [Act.put, l1, l2, l3, l4, l5, l6]
  refine tq 15 ?_; refine tq 19 ?_; refine tq 21 ?_
  try simp only [Act.put, l1, l2, l3, l4, l5, l6]
  refine rd 22 fun K hK => ?_
  have fc := And.intro (st.box 3 rfl).f5 (And.intro (st.box 2 rfl).f4 (And.intro (st.box 1 rfl).f5 (st.box 0 rfl).f5))
  go_simp
  try go_wp2_with fail
  clear fc
  replace st := (st.set 3 1 (.string (f.b1.extract 0 p ++ A ++ f.b1.extract (p + d.size) f.b1.size)) rfl).name; obtain ⟨V6, hV, st⟩ := st; rw [hV]; clear hV
  clear hHeld; refine hK.out _ _ ((st.box 2 rfl).c4) fun hHeld => ?_; clear hK K
  try simp only [Act.put, l1, l2, l3, l4, l5, l6]
  refine wpAnyH_done (by kernel_rfl) ?_ _; clear hHeld
  have fc := And.intro (st.box 3 rfl).f5 (And.intro (st.box 2 rfl).f4 (And.intro (st.box 1 rfl).f5 (st.box 0 rfl).f5))
  go_wp2
  clear fc
  replace st := st.put5 1 (.string f.b0) (.string (f.b1.extract 0 p ++ A ++ f.b1.extract (p + d.size) f.b1.size)) (.int .i64 f.e0) (.int .i64 f.e1) (.int .i64 f.lim) rfl; obtain ⟨V7, hV, st⟩ := st; rw [hV]; clear hV
  have fc := And.intro (st.box 3 rfl).f5 (And.intro (st.box 2 rfl).f4 (And.intro (st.box 1 rfl).f5 (st.box 0 rfl).f5))
  exact bodyPost_ret (v := .tuple #[.agg #[.string f.b0, .string (f.b1.extract 0 p ++ A ++ f.b1.extract (p + d.size) f.b1.size), .int .i64 f.e0, .int .i64 f.e1, .int .i64 f.lim], .int .i64 0]) (by simp [results, Tryz.results39, go_sem, fc]) rfl ⟨rfl, st.lo⟩

set_option maxRecDepth 100000 in
set_option maxHeartbeats 4000000 in
theorem pwTear2_0 (f : Fl) (q : Int) (d m : ByteArray) (W : World) (hf : f.fit) (hd : d.size ≤ maxLen) (hq : q ≤ 9223372036854775807) (hm : m.size ≤ maxLen) (he : eraseErr f 0 = 0) :
    Gives Tryz.prog 39 #[.agg #[.string f.b0, .string f.b1, .int .i64 f.e0, .int .i64 f.e1, .int .i64 f.lim], .agg #[.int .i64 2, .int .i64 0, .int .i64 q, .string d], .string m] W (.tuple #[.agg #[.string (eraT f.b0 m), .string f.b1, .int .i64 (f.e0 + 1), .int .i64 f.e1, .int .i64 f.lim], .int .i64 0]) := by
  have hs : f.b0.size ≤ 140737488351232 := hf.z0
  have hg : eraseF f 0 = ⟨blankT f.b0.size, f.b1, f.e0 + 1, f.e1, f.lim⟩ := by rw [eraseF_banks he]; rfl
  have TD := Lib.hid (fun (W : World) => (show Gives Tryz.prog 38 #[.agg #[.string f.b0, .string f.b1, .int .i64 f.e0, .int .i64 f.e1, .int .i64 f.lim], .agg #[.int .i64 2, .int .i64 0, .int .i64 q, .string d]] W (.tuple #[.agg #[.string (blankT f.b0.size), .string f.b1, .int .i64 (f.e0 + 1), .int .i64 f.e1, .int .i64 f.lim], .int .i64 0]) from by have h := pwDo2 f 0 q d W hf hd hq; rwa [he, hg] at h))
  have TU := Lib.hid (fun (W : World) => pwUnreached m f.b0.size W hm hs)
  have HS := era_splice f.b0 m
  have zU : (unrT m f.b0.size).size ≤ maxLen := by rw [unrT_size]; unfold maxLen; omega
  have zB : (blankT f.b0.size).size = f.b0.size := blankT_size' _
  rw [← HS]
  clear HS he hg
  generalize unrT m f.b0.size = U at *
  generalize blankT f.b0.size = B at *
  have TC := Lib.hid (fun (W : World) => clrTorn (B.extract 0 f.b0.size) f.b0 U W (by simp; omega) (by unfold maxLen; omega) zU)
  have HS : spliceT B 0 f.b0 U = tornB (B.extract 0 f.b0.size) f.b0 U ++ B.extract f.b0.size B.size := by
    show B.extract 0 0 ++ tornB (B.extract 0 (0 + f.b0.size)) f.b0 U ++ B.extract (0 + f.b0.size) B.size = _
    rw [Nat.zero_add]
    simp
  have zA : (tornB (B.extract 0 f.b0.size) f.b0 U).size ≤ B.size := by rw [tornB_size]; simp; omega
  rw [HS]
  clear HS
  generalize tornB (B.extract 0 f.b0.size) f.b0 U = A at *
  have hs2 : B.size ≤ 140737488351232 := by omega
  have w1 : IntKind.i64.wrap (f.b0.size : Int) = (f.b0.size : Int) := IntWalk.i64_in _ (by omega)
  have i0 : (0 : Int) ≤ (f.b0.size : Int) := by omega
  have i1 : (f.b0.size : Int) ≤ (B.size : Int) := by omega
  have i2 : f.b0.size ≤ B.size := by omega
  have g1 : ¬ 9223372036854775807 < A.size := by omega
  have g2 : ¬ 9223372036854775807 < A.size + (B.size - f.b0.size) := by omega
  clear zB
  have st := Bs.in3 W 25 [.string f.b0, .string f.b1, .int .i64 f.e0, .int .i64 f.e1, .int .i64 f.lim] 95 [.int .i64 2, .int .i64 0, .int .i64 q, .string d] 25 [.string ⟨#[]⟩, .string ⟨#[]⟩, .int .i64 0, .int .i64 0, .int .i64 0]
  go_enter Tryz.func39, Tryz.ntmps39
  go_wp2_with fail; refine callB st (TD.out _) ?_; clear st; intro V1 st
  replace st := st.alloc 25 [.string B, .string f.b1, .int .i64 (f.e0 + 1), .int .i64 f.e1, .int .i64 f.lim]
  have fc := And.intro (st.box 3 rfl).f5 (And.intro (st.box 2 rfl).f4 (And.intro (st.box 1 rfl).f5 (st.box 0 rfl).f5))
  go_wp2_with fail
  clear fc
  replace st := st.name; obtain ⟨V2, hV, st⟩ := st; rw [hV]; clear hV
  have fc := And.intro (st.box 3 rfl).f5 (And.intro (st.box 2 rfl).f4 (And.intro (st.box 1 rfl).f5 (st.box 0 rfl).f5))
  clear fc
  replace st := st.drew
  refine rh (fun w => w.cell? ⟨W.heap.size + 1, 1, none⟩ = some (.int .i64 0) ∧ w.cell? ⟨W.heap.size, 0, none⟩ = some (.string f.b0)) ⟨(st.box 2 rfl).cell 1 rfl, (st.box 3 rfl).cell 0 rfl⟩ fun hHeld => ?_
  generalize V2.drew = V3 at *
  refine tq 0 ?_; refine tq 1 ?_; refine tq 2 ?_; refine tq 3 ?_; refine tq 4 ?_; refine tq 5 ?_
  try simp only [Act.put, l1, l2, l3, l4, l5, l6]
  refine rd 6 fun K hK => ?_
  have fc := And.intro (st.box 3 rfl).f5 (And.intro (st.box 2 rfl).f4 (And.intro (st.box 1 rfl).f5 (st.box 0 rfl).f5))
  go_simp
  try go_wp2_with fail
  clear fc
  replace st := (st.set 2 2 (.int .i64 0) rfl).name; obtain ⟨V4, hV, st⟩ := st; rw [hV]; clear hV
  clear hHeld; refine hK.out _ _ ⟨(st.box 2 rfl).cell 1 rfl, (st.box 3 rfl).cell 0 rfl⟩ fun hHeld => ?_; clear hK K
  try simp only [Act.put, l1, l2, l3, l4, l5, l6]
  refine tq 7 ?_
  try simp only [Act.put, l1, l2, l3, l4, l5, l6]
  refine rd 8 fun K hK => ?_
  have fc := And.intro (st.box 3 rfl).f5 (And.intro (st.box 2 rfl).f4 (And.intro (st.box 1 rfl).f5 (st.box 0 rfl).f5))
  go_simp
  try go_wp2_with fail
  clear fc
  replace st := (st.set 2 3 (.string f.b0) rfl).name; obtain ⟨V5, hV, st⟩ := st; rw [hV]; clear hV
  clear hHeld; refine hK.out _ _ ⟨(st.box 2 rfl).cell 1 rfl, (st.box 3 rfl).cell 0 rfl⟩ fun hHeld => ?_; clear hK K
  try simp only [Act.put, l1, l2, l3, l4, l5, l6]
  refine wpAnyH_done (by kernel_rfl) ?_ _; clear hHeld
  have fc := And.intro (st.box 3 rfl).f5 (And.intro (st.box 2 rfl).f4 (And.intro (st.box 1 rfl).f5 (st.box 0 rfl).f5))
  go_wp2_with fail; refine callB st (TU.out _) ?_; clear st fc; intro V6 st
  have fc := And.intro (st.box 3 rfl).f5 (And.intro (st.box 2 rfl).f4 (And.intro (st.box 1 rfl).f5 (st.box 0 rfl).f5))
  go_wp2_with fail
  clear fc
  replace st := st.put5 3 (.string B) (.string f.b1) (.int .i64 (f.e0 + 1)) (.int .i64 f.e1) (.int .i64 f.lim) rfl; obtain ⟨V7, hV, st⟩ := st; rw [hV]; clear hV
  have fc := And.intro (st.box 3 rfl).f5 (And.intro (st.box 2 rfl).f4 (And.intro (st.box 1 rfl).f5 (st.box 0 rfl).f5))
  go_quiet (fail)
  clear fc
  replace st := st.drewN nq
  generalize (V7.drewN nq) = V8 at *
  have fc := And.intro (st.box 3 rfl).f5 (And.intro (st.box 2 rfl).f4 (And.intro (st.box 1 rfl).f5 (st.box 0 rfl).f5))
  go_wp2_with fail
  clear fc
  replace st := st.drew
  refine rh (fun w => C4 w (W.heap.size + 1) (.int .i64 2) (.int .i64 0) (.int .i64 0) (.string f.b0)) ((st.box 2 rfl).c4) fun hHeld => ?_
  generalize V8.drew = V9 at *
  refine tq 0 ?_; refine tq 1 ?_; refine tq 2 ?_; refine tq 3 ?_; refine tq 4 ?_; refine tq 5 ?_; refine tq 6 ?_; refine tq 7 ?_; refine tq 8 ?_; refine tq 9 ?_; refine tq 10 ?_; refine tq 11 ?_; refine tq 12 ?_; refine tq 13 ?_; refine tq 16 ?_; refine tq 17 ?_; refine tq 18 ?_; refine tq 20 ?_
  try simp only [Act.put, l1, l2, l3, l4, l5, l6]
  refine rd 14 fun K hK => ?_
  have fc := And.intro (st.box 3 rfl).f5 (And.intro (st.box 2 rfl).f4 (And.intro (st.box 1 rfl).f5 (st.box 0 rfl).f5))
  go_simp
  refine (TC.out _).mono ?_
  rintro e V10 ⟨rfl, hk⟩
  clear fc
  replace st := st.seq hk
  clear hk
  have fc := And.intro (st.box 3 rfl).f5 (And.intro (st.box 2 rfl).f4 (And.intro (st.box 1 rfl).f5 (st.box 0 rfl).f5))
  try go_wp2_with fail
  clear hHeld fc; refine hK.out _ _ ((st.box 2 rfl).c4) fun hHeld => ?_; clear hK K
  try simp only [Act.put, l1, l2, l3, l4, l5, l6]
  refine tq 15 ?_; refine tq 19 ?_; refine tq 21 ?_
  try simp only [Act.put, l1, l2, l3, l4, l5, l6]
  refine rd 22 fun K hK => ?_
  have fc := And.intro (st.box 3 rfl).f5 (And.intro (st.box 2 rfl).f4 (And.intro (st.box 1 rfl).f5 (st.box 0 rfl).f5))
  go_simp
  try go_wp2_with fail
  clear fc
  replace st := (st.set 3 0 (.string (A ++ B.extract f.b0.size B.size)) rfl).name; obtain ⟨V11, hV, st⟩ := st; rw [hV]; clear hV
  clear hHeld; refine hK.out _ _ ((st.box 2 rfl).c4) fun hHeld => ?_; clear hK K
  try simp only [Act.put, l1, l2, l3, l4, l5, l6]
  refine wpAnyH_done (by kernel_rfl) ?_ _; clear hHeld
  have fc := And.intro (st.box 3 rfl).f5 (And.intro (st.box 2 rfl).f4 (And.intro (st.box 1 rfl).f5 (st.box 0 rfl).f5))
  go_wp2
  clear fc
  replace st := st.put5 1 (.string (A ++ B.extract f.b0.size B.size)) (.string f.b1) (.int .i64 (f.e0 + 1)) (.int .i64 f.e1) (.int .i64 f.lim) rfl; obtain ⟨V12, hV, st⟩ := st; rw [hV]; clear hV
  have fc := And.intro (st.box 3 rfl).f5 (And.intro (st.box 2 rfl).f4 (And.intro (st.box 1 rfl).f5 (st.box 0 rfl).f5))
  exact bodyPost_ret (v := .tuple #[.agg #[.string (A ++ B.extract f.b0.size B.size), .string f.b1, .int .i64 (f.e0 + 1), .int .i64 f.e1, .int .i64 f.lim], .int .i64 0]) (by simp [results, Tryz.results39, go_sem, fc]) rfl ⟨rfl, st.lo⟩

set_option maxRecDepth 100000 in
set_option maxHeartbeats 4000000 in
theorem pwTear2_1 (f : Fl) (q : Int) (d m : ByteArray) (W : World) (hf : f.fit) (hd : d.size ≤ maxLen) (hq : q ≤ 9223372036854775807) (hm : m.size ≤ maxLen) (he : eraseErr f 1 = 0) :
    Gives Tryz.prog 39 #[.agg #[.string f.b0, .string f.b1, .int .i64 f.e0, .int .i64 f.e1, .int .i64 f.lim], .agg #[.int .i64 2, .int .i64 1, .int .i64 q, .string d], .string m] W (.tuple #[.agg #[.string f.b0, .string (eraT f.b1 m), .int .i64 f.e0, .int .i64 (f.e1 + 1), .int .i64 f.lim], .int .i64 0]) := by
  have hs : f.b1.size ≤ 140737488351232 := hf.z1
  have hg : eraseF f 1 = ⟨f.b0, blankT f.b1.size, f.e0, f.e1 + 1, f.lim⟩ := by rw [eraseF_banks he]; exact if_neg (by decide)
  have TD := Lib.hid (fun (W : World) => (show Gives Tryz.prog 38 #[.agg #[.string f.b0, .string f.b1, .int .i64 f.e0, .int .i64 f.e1, .int .i64 f.lim], .agg #[.int .i64 2, .int .i64 1, .int .i64 q, .string d]] W (.tuple #[.agg #[.string f.b0, .string (blankT f.b1.size), .int .i64 f.e0, .int .i64 (f.e1 + 1), .int .i64 f.lim], .int .i64 0]) from by have h := pwDo2 f 1 q d W hf hd hq; rwa [he, hg] at h))
  have TU := Lib.hid (fun (W : World) => pwUnreached m f.b1.size W hm hs)
  have HS := era_splice f.b1 m
  have zU : (unrT m f.b1.size).size ≤ maxLen := by rw [unrT_size]; unfold maxLen; omega
  have zB : (blankT f.b1.size).size = f.b1.size := blankT_size' _
  rw [← HS]
  clear HS he hg
  generalize unrT m f.b1.size = U at *
  generalize blankT f.b1.size = B at *
  have TC := Lib.hid (fun (W : World) => clrTorn (B.extract 0 f.b1.size) f.b1 U W (by simp; omega) (by unfold maxLen; omega) zU)
  have HS : spliceT B 0 f.b1 U = tornB (B.extract 0 f.b1.size) f.b1 U ++ B.extract f.b1.size B.size := by
    show B.extract 0 0 ++ tornB (B.extract 0 (0 + f.b1.size)) f.b1 U ++ B.extract (0 + f.b1.size) B.size = _
    rw [Nat.zero_add]
    simp
  have zA : (tornB (B.extract 0 f.b1.size) f.b1 U).size ≤ B.size := by rw [tornB_size]; simp; omega
  rw [HS]
  clear HS
  generalize tornB (B.extract 0 f.b1.size) f.b1 U = A at *
  have hs2 : B.size ≤ 140737488351232 := by omega
  have w1 : IntKind.i64.wrap (f.b1.size : Int) = (f.b1.size : Int) := IntWalk.i64_in _ (by omega)
  have i0 : (0 : Int) ≤ (f.b1.size : Int) := by omega
  have i1 : (f.b1.size : Int) ≤ (B.size : Int) := by omega
  have i2 : f.b1.size ≤ B.size := by omega
  have g1 : ¬ 9223372036854775807 < A.size := by omega
  have g2 : ¬ 9223372036854775807 < A.size + (B.size - f.b1.size) := by omega
  clear zB
  have st := Bs.in3 W 25 [.string f.b0, .string f.b1, .int .i64 f.e0, .int .i64 f.e1, .int .i64 f.lim] 95 [.int .i64 2, .int .i64 1, .int .i64 q, .string d] 25 [.string ⟨#[]⟩, .string ⟨#[]⟩, .int .i64 0, .int .i64 0, .int .i64 0]
  go_enter Tryz.func39, Tryz.ntmps39
  go_wp2_with fail; refine callB st (TD.out _) ?_; clear st; intro V1 st
  replace st := st.alloc 25 [.string f.b0, .string B, .int .i64 f.e0, .int .i64 (f.e1 + 1), .int .i64 f.lim]
  have fc := And.intro (st.box 3 rfl).f5 (And.intro (st.box 2 rfl).f4 (And.intro (st.box 1 rfl).f5 (st.box 0 rfl).f5))
  go_wp2_with fail
  clear fc
  replace st := st.name; obtain ⟨V2, hV, st⟩ := st; rw [hV]; clear hV
  have fc := And.intro (st.box 3 rfl).f5 (And.intro (st.box 2 rfl).f4 (And.intro (st.box 1 rfl).f5 (st.box 0 rfl).f5))
  clear fc
  replace st := st.drew
  refine rh (fun w => w.cell? ⟨W.heap.size + 1, 1, none⟩ = some (.int .i64 1) ∧ w.cell? ⟨W.heap.size, 1, none⟩ = some (.string f.b1)) ⟨(st.box 2 rfl).cell 1 rfl, (st.box 3 rfl).cell 1 rfl⟩ fun hHeld => ?_
  generalize V2.drew = V3 at *
  refine tq 0 ?_; refine tq 1 ?_; refine tq 2 ?_; refine tq 3 ?_; refine tq 4 ?_; refine tq 5 ?_
  try simp only [Act.put, l1, l2, l3, l4, l5, l6]
  refine rd 6 fun K hK => ?_
  have fc := And.intro (st.box 3 rfl).f5 (And.intro (st.box 2 rfl).f4 (And.intro (st.box 1 rfl).f5 (st.box 0 rfl).f5))
  go_simp
  try go_wp2_with fail
  clear fc
  replace st := (st.set 2 2 (.int .i64 0) rfl).name; obtain ⟨V4, hV, st⟩ := st; rw [hV]; clear hV
  clear hHeld; refine hK.out _ _ ⟨(st.box 2 rfl).cell 1 rfl, (st.box 3 rfl).cell 1 rfl⟩ fun hHeld => ?_; clear hK K
  try simp only [Act.put, l1, l2, l3, l4, l5, l6]
  refine tq 7 ?_
  try simp only [Act.put, l1, l2, l3, l4, l5, l6]
  refine rd 8 fun K hK => ?_
  have fc := And.intro (st.box 3 rfl).f5 (And.intro (st.box 2 rfl).f4 (And.intro (st.box 1 rfl).f5 (st.box 0 rfl).f5))
  go_simp
  try go_wp2_with fail
  clear fc
  replace st := (st.set 2 3 (.string f.b1) rfl).name; obtain ⟨V5, hV, st⟩ := st; rw [hV]; clear hV
  clear hHeld; refine hK.out _ _ ⟨(st.box 2 rfl).cell 1 rfl, (st.box 3 rfl).cell 1 rfl⟩ fun hHeld => ?_; clear hK K
  try simp only [Act.put, l1, l2, l3, l4, l5, l6]
  refine wpAnyH_done (by kernel_rfl) ?_ _; clear hHeld
  have fc := And.intro (st.box 3 rfl).f5 (And.intro (st.box 2 rfl).f4 (And.intro (st.box 1 rfl).f5 (st.box 0 rfl).f5))
  go_wp2_with fail; refine callB st (TU.out _) ?_; clear st fc; intro V6 st
  have fc := And.intro (st.box 3 rfl).f5 (And.intro (st.box 2 rfl).f4 (And.intro (st.box 1 rfl).f5 (st.box 0 rfl).f5))
  go_wp2_with fail
  clear fc
  replace st := st.put5 3 (.string f.b0) (.string B) (.int .i64 f.e0) (.int .i64 (f.e1 + 1)) (.int .i64 f.lim) rfl; obtain ⟨V7, hV, st⟩ := st; rw [hV]; clear hV
  have fc := And.intro (st.box 3 rfl).f5 (And.intro (st.box 2 rfl).f4 (And.intro (st.box 1 rfl).f5 (st.box 0 rfl).f5))
  go_quiet (fail)
  clear fc
  replace st := st.drewN nq
  generalize (V7.drewN nq) = V8 at *
  have fc := And.intro (st.box 3 rfl).f5 (And.intro (st.box 2 rfl).f4 (And.intro (st.box 1 rfl).f5 (st.box 0 rfl).f5))
  go_wp2_with fail
  clear fc
  replace st := st.drew
  refine rh (fun w => C4 w (W.heap.size + 1) (.int .i64 2) (.int .i64 1) (.int .i64 0) (.string f.b1)) ((st.box 2 rfl).c4) fun hHeld => ?_
  generalize V8.drew = V9 at *
  refine tq 0 ?_; refine tq 1 ?_; refine tq 2 ?_; refine tq 3 ?_; refine tq 4 ?_; refine tq 5 ?_; refine tq 6 ?_; refine tq 7 ?_; refine tq 8 ?_; refine tq 9 ?_; refine tq 10 ?_; refine tq 11 ?_; refine tq 12 ?_; refine tq 13 ?_; refine tq 16 ?_; refine tq 17 ?_; refine tq 18 ?_; refine tq 20 ?_
  try simp only [Act.put, l1, l2, l3, l4, l5, l6]
  refine rd 14 fun K hK => ?_
  have fc := And.intro (st.box 3 rfl).f5 (And.intro (st.box 2 rfl).f4 (And.intro (st.box 1 rfl).f5 (st.box 0 rfl).f5))
  go_simp
  refine (TC.out _).mono ?_
  rintro e V10 ⟨rfl, hk⟩
  clear fc
  replace st := st.seq hk
  clear hk
  have fc := And.intro (st.box 3 rfl).f5 (And.intro (st.box 2 rfl).f4 (And.intro (st.box 1 rfl).f5 (st.box 0 rfl).f5))
  try go_wp2_with fail
  clear hHeld fc; refine hK.out _ _ ((st.box 2 rfl).c4) fun hHeld => ?_; clear hK K
  try simp only [Act.put, l1, l2, l3, l4, l5, l6]
  refine tq 15 ?_; refine tq 19 ?_; refine tq 21 ?_
  try simp only [Act.put, l1, l2, l3, l4, l5, l6]
  refine rd 22 fun K hK => ?_
  have fc := And.intro (st.box 3 rfl).f5 (And.intro (st.box 2 rfl).f4 (And.intro (st.box 1 rfl).f5 (st.box 0 rfl).f5))
  go_simp
  try go_wp2_with fail
  clear fc
  replace st := (st.set 3 1 (.string (A ++ B.extract f.b1.size B.size)) rfl).name; obtain ⟨V11, hV, st⟩ := st; rw [hV]; clear hV
  clear hHeld; refine hK.out _ _ ((st.box 2 rfl).c4) fun hHeld => ?_; clear hK K
  try simp only [Act.put, l1, l2, l3, l4, l5, l6]
  refine wpAnyH_done (by kernel_rfl) ?_ _; clear hHeld
  have fc := And.intro (st.box 3 rfl).f5 (And.intro (st.box 2 rfl).f4 (And.intro (st.box 1 rfl).f5 (st.box 0 rfl).f5))
  go_wp2
  clear fc
  replace st := st.put5 1 (.string f.b0) (.string (A ++ B.extract f.b1.size B.size)) (.int .i64 f.e0) (.int .i64 (f.e1 + 1)) (.int .i64 f.lim) rfl; obtain ⟨V12, hV, st⟩ := st; rw [hV]; clear hV
  have fc := And.intro (st.box 3 rfl).f5 (And.intro (st.box 2 rfl).f4 (And.intro (st.box 1 rfl).f5 (st.box 0 rfl).f5))
  exact bodyPost_ret (v := .tuple #[.agg #[.string f.b0, .string (A ++ B.extract f.b1.size B.size), .int .i64 f.e0, .int .i64 (f.e1 + 1), .int .i64 f.lim], .int .i64 0]) (by simp [results, Tryz.results39, go_sem, fc]) rfl ⟨rfl, st.lo⟩

set_option maxRecDepth 100000 in
set_option maxHeartbeats 4000000 in
theorem pwTear0 (f : Fl) (o : PwOp) (m : ByteArray) (W : World) (hf : f.fit) (ho : o.ok) (he : doErr f o ≠ 0) :
    Gives Tryz.prog 39 #[.agg #[.string f.b0, .string f.b1, .int .i64 f.e0, .int .i64 f.e1, .int .i64 f.lim], .agg #[.int .i64 o.kind, .int .i64 o.bank, .int .i64 o.q, .string o.d], .string m] W (.tuple #[.agg #[.string f.b0, .string f.b1, .int .i64 f.e0, .int .i64 f.e1, .int .i64 f.lim], .int .i64 (doErr f o)]) := by
  have TD := Lib.hid (fun (W : World) => (show Gives Tryz.prog 38 #[.agg #[.string f.b0, .string f.b1, .int .i64 f.e0, .int .i64 f.e1, .int .i64 f.lim], .agg #[.int .i64 o.kind, .int .i64 o.bank, .int .i64 o.q, .string o.d]] W (.tuple #[.agg #[.string f.b0, .string f.b1, .int .i64 f.e0, .int .i64 f.e1, .int .i64 f.lim], .int .i64 (doErr f o)]) from by have h := own04Do f o W hf ho; rwa [doF_err he] at h))
  have nE : (doErr f o != 0) = true := bne_iff_ne.2 he
  clear he
  generalize doErr f o = E at *
  have st := Bs.in3 W 25 [.string f.b0, .string f.b1, .int .i64 f.e0, .int .i64 f.e1, .int .i64 f.lim] 95 [.int .i64 o.kind, .int .i64 o.bank, .int .i64 o.q, .string o.d] 25 [.string ⟨#[]⟩, .string ⟨#[]⟩, .int .i64 0, .int .i64 0, .int .i64 0]
  go_enter Tryz.func39, Tryz.ntmps39
  go_wp2_with fail; refine callB st (TD.out _) ?_; clear st; intro V1 st
  replace st := st.alloc 25 [.string f.b0, .string f.b1, .int .i64 f.e0, .int .i64 f.e1, .int .i64 f.lim]
  have fc := And.intro (st.box 3 rfl).f5 (And.intro (st.box 2 rfl).f4 (And.intro (st.box 1 rfl).f5 (st.box 0 rfl).f5))
  go_wp2
  clear fc
  replace st := st.put5 1 (.string f.b0) (.string f.b1) (.int .i64 f.e0) (.int .i64 f.e1) (.int .i64 f.lim) rfl; obtain ⟨V2, hV, st⟩ := st; rw [hV]; clear hV
  have fc := And.intro (st.box 3 rfl).f5 (And.intro (st.box 2 rfl).f4 (And.intro (st.box 1 rfl).f5 (st.box 0 rfl).f5))
  exact bodyPost_ret (v := .tuple #[.agg #[.string f.b0, .string f.b1, .int .i64 f.e0, .int .i64 f.e1, .int .i64 f.lim], .int .i64 E]) (by simp [results, Tryz.results39, go_sem, fc]) rfl ⟨rfl, st.lo⟩

theorem own04Tear (f : Fl) (o : PwOp) (m : ByteArray) (W : World) (hf : f.fit) (ho : o.ok) (hm : m.size ≤ maxLen) :
    Gives Tryz.prog 39 #[.agg #[.string f.b0, .string f.b1, .int .i64 f.e0, .int .i64 f.e1, .int .i64 f.lim], .agg #[.int .i64 o.kind, .int .i64 o.bank, .int .i64 o.q, .string o.d], .string m] W (.tuple #[.agg #[.string (tearF f o m).b0, .string (tearF f o m).b1, .int .i64 (tearF f o m).e0, .int .i64 (tearF f o m).e1, .int .i64 (tearF f o m).lim], .int .i64 (doErr f o)]) := by
  by_cases he : doErr f o = 0
  · obtain ⟨hb, hk⟩ := doErr_bank he
    have hq := ho.nq
    have hd := ho.sd
    obtain ⟨k, b, q, d⟩ := o
    dsimp only at hb hk hq hd ⊢
    rcases hk with rfl | rfl
    · rw [tearF_prog he rfl, he]
      dsimp only
      have hp : progErr f b q d = 0 := (doErr_prog (o := (⟨1, b, q, d⟩ : PwOp)) rfl).symm.trans he
      obtain ⟨hq0, hq1⟩ := prog_bounds hp
      obtain ⟨p, rfl⟩ := Int.eq_ofNat_of_zero_le hq0
      rw [Int.toNat_natCast] at hq1 ⊢
      rcases hb with rfl | rfl
      · exact pwTear1_0 f p d m W hf hd hm hp hq1
      · exact pwTear1_1 f p d m W hf hd hm hp hq1
    · rw [tearF_erase he rfl, he]
      dsimp only
      have hp : eraseErr f b = 0 := (doErr_erase (o := (⟨2, b, q, d⟩ : PwOp)) rfl).symm.trans he
      rcases hb with rfl | rfl
      · rw [eraseF_banks hp]; exact pwTear2_0 f q d m W hf hd hq.2 hm hp
      · rw [eraseF_banks hp]; exact pwTear2_1 f q d m W hf hd hq.2 hm hp
  · rw [tearF_err he]
    exact pwTear0 f o m W hf ho he
end Go.Proofs.YthmpjoiifglbjaaGreat

/- The reference's functions of layer 4: contracts only. -/
import Derived.Test.YthmpjoiifglbjaaGreatRows
import Derived.Test.YthmpjoiifglbjaaGreatJourFit
import Derived.Test.YthmpjoiifglbjaaGreatPowerDo
import Derived.Test.YthmpjoiifglbjaaGreatFlashDo
import Derived.Test.YthmpjoiifglbjaaGreatIter
import Derived.Test.YthmpjoiifglbjaaGreatBs
import Derived.Test.YthmpjoiifglbjaaGreatInts
import Derived.WalkKit
import Derived.ProofKit
import Derived.OwnWalk
import Derived.Lib.Hide
import Derived.BigQuiet
import Derived.Deep.QuietTactic
import Derived.Deep.RegionHeld3
import Derived.IntWalk
import Derived.WalkLawsBesides
import Derived.WalkMore
import Derived.Deep.Draws
namespace Go.Proofs.YthmpjoiifglbjaaGreat
open Go.RowKit
set_option linter.unusedVariables false
set_option linter.unusedSimpArgs false

set_option maxRecDepth 100000 in
set_option maxHeartbeats 4000000 in
theorem refDo1 (f : Fl) (b q : Int) (d : ByteArray) (W : World) (hf : f.fit) (hd : d.size ≤ maxLen) (hq : -9223372036854775808 ≤ q ∧ q ≤ 9223372036854775807) :
    Gives Tryz.prog 46 #[.agg #[.string f.b0, .string f.b1, .int .i64 f.e0, .int .i64 f.e1, .int .i64 f.lim], .agg #[.int .i64 1, .int .i64 b, .int .i64 q, .string d]] W (.tuple #[.agg #[.string (progF f b q d).b0, .string (progF f b q d).b1, .int .i64 (progF f b q d).e0, .int .i64 (progF f b q d).e1, .int .i64 (progF f b q d).lim], .int .i64 (progErr f b q d)]) := by
  have T := Lib.hid (fun (W : World) => ref03Program f b q d W hf hq hd)
  generalize progF f b q d = g at *
  generalize progErr f b q d = E at *
  have st := Bs.in3 W 35 [.string f.b0, .string f.b1, .int .i64 f.e0, .int .i64 f.e1, .int .i64 f.lim] 105 [.int .i64 1, .int .i64 b, .int .i64 q, .string d] 35 [.string ⟨#[]⟩, .string ⟨#[]⟩, .int .i64 0, .int .i64 0, .int .i64 0]
  go_enter Tryz.func46, Tryz.ntmps46
  go_wp2_with fail; refine callB st (T.out _) ?_; clear st; intro V1 st
  have fc := And.intro (st.box 2 rfl).f5 (And.intro (st.box 1 rfl).f4 (st.box 0 rfl).f5)
  go_wp2
  clear fc
  replace st := st.put5 0 (.string g.b0) (.string g.b1) (.int .i64 g.e0) (.int .i64 g.e1) (.int .i64 g.lim) rfl; obtain ⟨V2, hV, st⟩ := st; rw [hV]; clear hV
  have fc := And.intro (st.box 2 rfl).f5 (And.intro (st.box 1 rfl).f4 (st.box 0 rfl).f5)
  exact bodyPost_ret (v := .tuple #[.agg #[.string g.b0, .string g.b1, .int .i64 g.e0, .int .i64 g.e1, .int .i64 g.lim], .int .i64 E]) (by simp [results, Tryz.results46, go_sem, fc]) rfl ⟨rfl, st.lo⟩

set_option maxRecDepth 100000 in
set_option maxHeartbeats 4000000 in
theorem refDo2 (f : Fl) (b q : Int) (d : ByteArray) (W : World) (hf : f.fit) (hd : d.size ≤ maxLen) (hq : -9223372036854775808 ≤ q ∧ q ≤ 9223372036854775807) :
    Gives Tryz.prog 46 #[.agg #[.string f.b0, .string f.b1, .int .i64 f.e0, .int .i64 f.e1, .int .i64 f.lim], .agg #[.int .i64 2, .int .i64 b, .int .i64 q, .string d]] W (.tuple #[.agg #[.string (eraseF f b).b0, .string (eraseF f b).b1, .int .i64 (eraseF f b).e0, .int .i64 (eraseF f b).e1, .int .i64 (eraseF f b).lim], .int .i64 (eraseErr f b)]) := by
  have T := Lib.hid (fun (W : World) => ref03Erase f b W hf)
  generalize eraseF f b = g at *
  generalize eraseErr f b = E at *
  have st := Bs.in3 W 35 [.string f.b0, .string f.b1, .int .i64 f.e0, .int .i64 f.e1, .int .i64 f.lim] 105 [.int .i64 2, .int .i64 b, .int .i64 q, .string d] 35 [.string ⟨#[]⟩, .string ⟨#[]⟩, .int .i64 0, .int .i64 0, .int .i64 0]
  go_enter Tryz.func46, Tryz.ntmps46
  go_wp2_with fail; refine callB st (T.out _) ?_; clear st; intro V1 st
  have fc := And.intro (st.box 2 rfl).f5 (And.intro (st.box 1 rfl).f4 (st.box 0 rfl).f5)
  go_wp2
  clear fc
  replace st := st.put5 0 (.string g.b0) (.string g.b1) (.int .i64 g.e0) (.int .i64 g.e1) (.int .i64 g.lim) rfl; obtain ⟨V2, hV, st⟩ := st; rw [hV]; clear hV
  have fc := And.intro (st.box 2 rfl).f5 (And.intro (st.box 1 rfl).f4 (st.box 0 rfl).f5)
  exact bodyPost_ret (v := .tuple #[.agg #[.string g.b0, .string g.b1, .int .i64 g.e0, .int .i64 g.e1, .int .i64 g.lim], .int .i64 E]) (by simp [results, Tryz.results46, go_sem, fc]) rfl ⟨rfl, st.lo⟩

set_option maxRecDepth 100000 in
set_option maxHeartbeats 4000000 in
theorem refDo0 (f : Fl) (k b q : Int) (d : ByteArray) (W : World) (h1 : k ≠ 1) (h2 : k ≠ 2) :
    Gives Tryz.prog 46 #[.agg #[.string f.b0, .string f.b1, .int .i64 f.e0, .int .i64 f.e1, .int .i64 f.lim], .agg #[.int .i64 k, .int .i64 b, .int .i64 q, .string d]] W (.tuple #[.agg #[.string f.b0, .string f.b1, .int .i64 f.e0, .int .i64 f.e1, .int .i64 f.lim], .int .i64 1]) := by
  have n1 : (k == 1) = false := beq_eq_false_iff_ne.2 h1
  have n2 : (k == 2) = false := beq_eq_false_iff_ne.2 h2
  have st := Bs.in3 W 35 [.string f.b0, .string f.b1, .int .i64 f.e0, .int .i64 f.e1, .int .i64 f.lim] 105 [.int .i64 k, .int .i64 b, .int .i64 q, .string d] 35 [.string f.b0, .string f.b1, .int .i64 f.e0, .int .i64 f.e1, .int .i64 f.lim]
  go_enter Tryz.func46, Tryz.ntmps46
  have fc := And.intro (st.box 2 rfl).f5 (And.intro (st.box 1 rfl).f4 (st.box 0 rfl).f5)
  go_wp2
  exact bodyPost_ret (v := .tuple #[.agg #[.string f.b0, .string f.b1, .int .i64 f.e0, .int .i64 f.e1, .int .i64 f.lim], .int .i64 1]) (by simp [results, Tryz.results46, go_sem, fc]) rfl ⟨rfl, st.lo⟩

theorem ref04Do (f : Fl) (o : PwOp) (W : World) (hf : f.fit) (ho : o.ok) :
    Gives Tryz.prog 46 #[.agg #[.string f.b0, .string f.b1, .int .i64 f.e0, .int .i64 f.e1, .int .i64 f.lim], .agg #[.int .i64 o.kind, .int .i64 o.bank, .int .i64 o.q, .string o.d]] W (.tuple #[.agg #[.string (doF f o).b0, .string (doF f o).b1, .int .i64 (doF f o).e0, .int .i64 (doF f o).e1, .int .i64 (doF f o).lim], .int .i64 (doErr f o)]) := by
  obtain ⟨k, b, q, d⟩ := o
  have hd := ho.sd
  have hq := ho.nq
  by_cases h1 : k = 1
  · subst h1; exact refDo1 f b q d W hf hd hq
  · by_cases h2 : k = 2
    · subst h2; exact refDo2 f b q d W hf hd hq
    · have e1 : doErr f ⟨k, b, q, d⟩ = 1 := by unfold doErr; rw [if_neg h1, if_neg h2]
      have e2 : doF f ⟨k, b, q, d⟩ = f := by unfold doF; rw [if_neg h1, if_neg h2]
      rw [e1, e2]
      exact refDo0 f k b q d W h1 h2

set_option maxRecDepth 100000 in
set_option maxHeartbeats 4000000 in
theorem refTear0 (f : Fl) (o : PwOp) (m : ByteArray) (W : World) (hf : f.fit) (ho : o.ok) (he : doErr f o ≠ 0) :
    Gives Tryz.prog 45 #[.agg #[.string f.b0, .string f.b1, .int .i64 f.e0, .int .i64 f.e1, .int .i64 f.lim], .agg #[.int .i64 o.kind, .int .i64 o.bank, .int .i64 o.q, .string o.d], .string m] W (.tuple #[.agg #[.string f.b0, .string f.b1, .int .i64 f.e0, .int .i64 f.e1, .int .i64 f.lim], .int .i64 (doErr f o)]) := by
  have TD := Lib.hid (fun (W : World) => (show Gives Tryz.prog 46 #[.agg #[.string f.b0, .string f.b1, .int .i64 f.e0, .int .i64 f.e1, .int .i64 f.lim], .agg #[.int .i64 o.kind, .int .i64 o.bank, .int .i64 o.q, .string o.d]] W (.tuple #[.agg #[.string f.b0, .string f.b1, .int .i64 f.e0, .int .i64 f.e1, .int .i64 f.lim], .int .i64 (doErr f o)]) from by have h := ref04Do f o W hf ho; rwa [doF_err he] at h))
  have nE : (doErr f o != 0) = true := bne_iff_ne.2 he
  clear he
  generalize doErr f o = E at *
  have st := Bs.in3 W 35 [.string f.b0, .string f.b1, .int .i64 f.e0, .int .i64 f.e1, .int .i64 f.lim] 105 [.int .i64 o.kind, .int .i64 o.bank, .int .i64 o.q, .string o.d] 35 [.string ⟨#[]⟩, .string ⟨#[]⟩, .int .i64 0, .int .i64 0, .int .i64 0]
  go_enter Tryz.func45, Tryz.ntmps45
  go_wp2_with fail; refine callB st (TD.out _) ?_; clear st; intro V1 st
  replace st := st.alloc 35 [.string f.b0, .string f.b1, .int .i64 f.e0, .int .i64 f.e1, .int .i64 f.lim]
  have fc := And.intro (st.box 3 rfl).f5 (And.intro (st.box 2 rfl).f4 (And.intro (st.box 1 rfl).f5 (st.box 0 rfl).f5))
  go_wp2
  clear fc
  replace st := st.put5 1 (.string f.b0) (.string f.b1) (.int .i64 f.e0) (.int .i64 f.e1) (.int .i64 f.lim) rfl; obtain ⟨V2, hV, st⟩ := st; rw [hV]; clear hV
  have fc := And.intro (st.box 3 rfl).f5 (And.intro (st.box 2 rfl).f4 (And.intro (st.box 1 rfl).f5 (st.box 0 rfl).f5))
  exact bodyPost_ret (v := .tuple #[.agg #[.string f.b0, .string f.b1, .int .i64 f.e0, .int .i64 f.e1, .int .i64 f.lim], .int .i64 E]) (by simp [results, Tryz.results45, go_sem, fc]) rfl ⟨rfl, st.lo⟩

set_option maxRecDepth 100000 in
set_option maxHeartbeats 4000000 in
theorem refTear1_0 (f : Fl) (p : Nat) (d m : ByteArray) (W : World) (hf : f.fit) (hd : d.size ≤ maxLen) (hm : m.size ≤ maxLen) (he : progErr f 0 (p : Int) d = 0) (hb : p + d.size ≤ f.b0.size) :
    Gives Tryz.prog 45 #[.agg #[.string f.b0, .string f.b1, .int .i64 f.e0, .int .i64 f.e1, .int .i64 f.lim], .agg #[.int .i64 1, .int .i64 0, .int .i64 (p : Int), .string d], .string m] W (.tuple #[.agg #[.string (spliceT f.b0 p d m), .string f.b1, .int .i64 f.e0, .int .i64 f.e1, .int .i64 f.lim], .int .i64 0]) := by
  have hs : f.b0.size ≤ 140737488351232 := hf.z0
  have TD := Lib.hid (fun (W : World) => (show Gives Tryz.prog 46 #[.agg #[.string f.b0, .string f.b1, .int .i64 f.e0, .int .i64 f.e1, .int .i64 f.lim], .agg #[.int .i64 1, .int .i64 0, .int .i64 (p : Int), .string d]] W (.tuple #[.agg #[.string (progF f 0 (p : Int) d).b0, .string (progF f 0 (p : Int) d).b1, .int .i64 (progF f 0 (p : Int) d).e0, .int .i64 (progF f 0 (p : Int) d).e1, .int .i64 (progF f 0 (p : Int) d).lim], .int .i64 0]) from by have h := refDo1 f 0 (p : Int) d W hf hd (by omega); rwa [he] at h))
  generalize progF f 0 (p : Int) d = g at *
  have TC := Lib.hid (fun (W : World) => refTorn (f.b0.extract p (p + d.size)) d m W (by simp; omega) (by unfold maxLen; omega) hm)
  have HS := (show spliceT f.b0 p d m = f.b0.extract 0 p ++ tornB (f.b0.extract p (p + d.size)) d m ++ f.b0.extract (p + d.size) f.b0.size from rfl)
  have hA : (tornB (f.b0.extract p (p + d.size)) d m).size = d.size := by rw [tornB_size]; simp; omega
  rw [HS]
  clear HS he
  generalize tornB (f.b0.extract p (p + d.size)) d m = A at *
  obtain ⟨w1, w2, v0, v1, v2, v3, v4, o1, o2, o3, o4⟩ := prog_nums hb hs hA
  generalize hpd : p + d.size = r at *
  have w3 : wrap64 (r : Int) = (r : Int) := by rw [← w2]; exact w1.trans w2.symm
  clear hb hA hpd hs
  have st := Bs.in3 W 35 [.string f.b0, .string f.b1, .int .i64 f.e0, .int .i64 f.e1, .int .i64 f.lim] 105 [.int .i64 1, .int .i64 0, .int .i64 (p : Int), .string d] 35 [.string ⟨#[]⟩, .string ⟨#[]⟩, .int .i64 0, .int .i64 0, .int .i64 0]
  go_enter Tryz.func45, Tryz.ntmps45
  go_wp2_with fail; refine callB st (TD.out _) ?_; clear st; intro V1 st
  replace st := st.alloc 35 [.string g.b0, .string g.b1, .int .i64 g.e0, .int .i64 g.e1, .int .i64 g.lim]
  have fc := And.intro (st.box 3 rfl).f5 (And.intro (st.box 2 rfl).f4 (And.intro (st.box 1 rfl).f5 (st.box 0 rfl).f5))
  go_wp2_with fail
  clear fc
  replace st := st.name; obtain ⟨V2, hV, st⟩ := st; rw [hV]; clear hV
  have fc := And.intro (st.box 3 rfl).f5 (And.intro (st.box 2 rfl).f4 (And.intro (st.box 1 rfl).f5 (st.box 0 rfl).f5))
  clear fc
  replace st := st.drew
  refine rh (fun w => C4 w (W.heap.size + 1) (.int .i64 1) (.int .i64 0) (.int .i64 (p : Int)) (.string d)) ((st.box 2 rfl).c4) fun hHeld => ?_
  generalize V2.drew = V3 at *
  refine tq 0 ?_; refine tq 1 ?_; refine tq 2 ?_; refine tq 3 ?_; refine tq 4 ?_; refine tq 5 ?_; refine tq 6 ?_; refine tq 7 ?_; refine tq 8 ?_; refine tq 9 ?_; refine tq 10 ?_; refine tq 11 ?_; refine tq 12 ?_; refine tq 13 ?_; refine tq 16 ?_; refine tq 17 ?_; refine tq 18 ?_; refine tq 20 ?_
  try simp only [Act.put, l1, l2, l3, l4, l5, l6]
  refine rd 14 fun K hK => ?_
  have fc := And.intro (st.box 3 rfl).f5 (And.intro (st.box 2 rfl).f4 (And.intro (st.box 1 rfl).f5 (st.box 0 rfl).f5))
  go_simp
  refine callB st (TC.out _) ?_; clear st fc; intro V4 st
  have fc := And.intro (st.box 3 rfl).f5 (And.intro (st.box 2 rfl).f4 (And.intro (st.box 1 rfl).f5 (st.box 0 rfl).f5))
  try go_wp2_with fail
  clear hHeld fc; refine hK.out _ _ ((st.box 2 rfl).c4) fun hHeld => ?_; clear hK K
  try simp only [Act.put, l1, l2, l3, l4, l5, l6]
  refine tq 15 ?_; refine tq 19 ?_; refine tq 21 ?_
  try simp only [Act.put, l1, l2, l3, l4, l5, l6]
  refine rd 22 fun K hK => ?_
  have fc := And.intro (st.box 3 rfl).f5 (And.intro (st.box 2 rfl).f4 (And.intro (st.box 1 rfl).f5 (st.box 0 rfl).f5))
  go_simp
  try go_wp2_with fail
  clear fc
  replace st := (st.set 3 0 (.string (f.b0.extract 0 p ++ A ++ f.b0.extract r f.b0.size)) rfl).name; obtain ⟨V5, hV, st⟩ := st; rw [hV]; clear hV
  clear hHeld; refine hK.out _ _ ((st.box 2 rfl).c4) fun hHeld => ?_; clear hK K
  try simp only [Act.put, l1, l2, l3, l4, l5, l6]
  refine wpAnyH_done (by kernel_rfl) ?_ _; clear hHeld
  have fc := And.intro (st.box 3 rfl).f5 (And.intro (st.box 2 rfl).f4 (And.intro (st.box 1 rfl).f5 (st.box 0 rfl).f5))
  go_wp2
  clear fc
  replace st := st.put5 1 (.string (f.b0.extract 0 p ++ A ++ f.b0.extract r f.b0.size)) (.string f.b1) (.int .i64 f.e0) (.int .i64 f.e1) (.int .i64 f.lim) rfl; obtain ⟨V6, hV, st⟩ := st; rw [hV]; clear hV
  have fc := And.intro (st.box 3 rfl).f5 (And.intro (st.box 2 rfl).f4 (And.intro (st.box 1 rfl).f5 (st.box 0 rfl).f5))
  exact bodyPost_ret (v := .tuple #[.agg #[.string (f.b0.extract 0 p ++ A ++ f.b0.extract r f.b0.size), .string f.b1, .int .i64 f.e0, .int .i64 f.e1, .int .i64 f.lim], .int .i64 0]) (by simp [results, Tryz.results45, go_sem, fc]) rfl ⟨rfl, st.lo⟩

set_option maxRecDepth 100000 in
set_option maxHeartbeats 4000000 in
theorem refTear1_1 (f : Fl) (p : Nat) (d m : ByteArray) (W : World) (hf : f.fit) (hd : d.size ≤ maxLen) (hm : m.size ≤ maxLen) (he : progErr f 1 (p : Int) d = 0) (hb : p + d.size ≤ f.b1.size) :
    Gives Tryz.prog 45 #[.agg #[.string f.b0, .string f.b1, .int .i64 f.e0, .int .i64 f.e1, .int .i64 f.lim], .agg #[.int .i64 1, .int .i64 1, .int .i64 (p : Int), .string d], .string m] W (.tuple #[.agg #[.string f.b0, .string (spliceT f.b1 p d m), .int .i64 f.e0, .int .i64 f.e1, .int .i64 f.lim], .int .i64 0]) := by
  have hs : f.b1.size ≤ 140737488351232 := hf.z1
  have TD := Lib.hid (fun (W : World) => (show Gives Tryz.prog 46 #[.agg #[.string f.b0, .string f.b1, .int .i64 f.e0, .int .i64 f.e1, .int .i64 f.lim], .agg #[.int .i64 1, .int .i64 1, .int .i64 (p : Int), .string d]] W (.tuple #[.agg #[.string (progF f 1 (p : Int) d).b0, .string (progF f 1 (p : Int) d).b1, .int .i64 (progF f 1 (p : Int) d).e0, .int .i64 (progF f 1 (p : Int) d).e1, .int .i64 (progF f 1 (p : Int) d).lim], .int .i64 0]) from by have h := refDo1 f 1 (p : Int) d W hf hd (by omega); rwa [he] at h))
  generalize progF f 1 (p : Int) d = g at *
  have TC := Lib.hid (fun (W : World) => refTorn (f.b1.extract p (p + d.size)) d m W (by simp; omega) (by unfold maxLen; omega) hm)
  have HS := (show spliceT f.b1 p d m = f.b1.extract 0 p ++ tornB (f.b1.extract p (p + d.size)) d m ++ f.b1.extract (p + d.size) f.b1.size from rfl)
  have hA : (tornB (f.b1.extract p (p + d.size)) d m).size = d.size := by rw [tornB_size]; simp; omega
  rw [HS]
  clear HS he
  generalize tornB (f.b1.extract p (p + d.size)) d m = A at *
  obtain ⟨w1, w2, v0, v1, v2, v3, v4, o1, o2, o3, o4⟩ := prog_nums hb hs hA
  generalize hpd : p + d.size = r at *
  have w3 : wrap64 (r : Int) = (r : Int) := by rw [← w2]; exact w1.trans w2.symm
  clear hb hA hpd hs
  have st := Bs.in3 W 35 [.string f.b0, .string f.b1, .int .i64 f.e0, .int .i64 f.e1, .int .i64 f.lim] 105 [.int .i64 1, .int .i64 1, .int .i64 (p : Int), .string d] 35 [.string ⟨#[]⟩, .string ⟨#[]⟩, .int .i64 0, .int .i64 0, .int .i64 0]
  go_enter Tryz.func45, Tryz.ntmps45
  go_wp2_with fail; refine callB st (TD.out _) ?_; clear st; intro V1 st
  replace st := st.alloc 35 [.string g.b0, .string g.b1, .int .i64 g.e0, .int .i64 g.e1, .int .i64 g.lim]
  have fc := And.intro (st.box 3 rfl).f5 (And.intro (st.box 2 rfl).f4 (And.intro (st.box 1 rfl).f5 (st.box 0 rfl).f5))
  go_wp2_with fail
  clear fc
  replace st := st.name; obtain ⟨V2, hV, st⟩ := st; rw [hV]; clear hV
  have fc := And.intro (st.box 3 rfl).f5 (And.intro (st.box 2 rfl).f4 (And.intro (st.box 1 rfl).f5 (st.box 0 rfl).f5))
  clear fc
  replace st := st.drew
  refine rh (fun w => C4 w (W.heap.size + 1) (.int .i64 1) (.int .i64 1) (.int .i64 (p : Int)) (.string d)) ((st.box 2 rfl).c4) fun hHeld => ?_
  generalize V2.drew = V3 at *
  refine tq 0 ?_; refine tq 1 ?_; refine tq 2 ?_; refine tq 3 ?_; refine tq 4 ?_; refine tq 5 ?_; refine tq 6 ?_; refine tq 7 ?_; refine tq 8 ?_; refine tq 9 ?_; refine tq 10 ?_; refine tq 11 ?_; refine tq 12 ?_; refine tq 13 ?_; refine tq 16 ?_; refine tq 17 ?_; refine tq 18 ?_; refine tq 20 ?_
  try simp only [Act.put, l1, l2, l3, l4, l5, l6]
  refine rd 14 fun K hK => ?_
  have fc := And.intro (st.box 3 rfl).f5 (And.intro (st.box 2 rfl).f4 (And.intro (st.box 1 rfl).f5 (st.box 0 rfl).f5))
  go_simp
  refine callB st (TC.out _) ?_; clear st fc; intro V4 st
  have fc := And.intro (st.box 3 rfl).f5 (And.intro (st.box 2 rfl).f4 (And.intro (st.box 1 rfl).f5 (st.box 0 rfl).f5))
  try go_wp2_with fail
  clear hHeld fc; refine hK.out _ _ ((st.box 2 rfl).c4) fun hHeld => ?_; clear hK K
  try simp only [Act.put, l1, l2, l3, l4, l5, l6]
  refine tq 15 ?_; refine tq 19 ?_; refine tq 21 ?_
  try simp only [Act.put, l1, l2, l3, l4, l5, l6]
  refine rd 22 fun K hK => ?_
  have fc := And.intro (st.box 3 rfl).f5 (And.intro (st.box 2 rfl).f4 (And.intro (st.box 1 rfl).f5 (st.box 0 rfl).f5))
  go_simp
  try go_wp2_with fail
  clear fc
  replace st := (st.set 3 1 (.string (f.b1.extract 0 p ++ A ++ f.b1.extract r f.b1.size)) rfl).name; obtain ⟨V5, hV, st⟩ := st; rw [hV]; clear hV
  clear hHeld; refine hK.out _ _ ((st.box 2 rfl).c4) fun hHeld => ?_; clear hK K
  try simp only [Act.put, l1, l2, l3, l4, l5, l6]
  refine wpAnyH_done (by kernel_rfl) ?_ _; clear hHeld
  have fc := And.intro (st.box 3 rfl).f5 (And.intro (st.box 2 rfl).f4 (And.intro (st.box 1 rfl).f5 (st.box 0 rfl).f5))
  go_wp2
  clear fc
  replace st := st.put5 1 (.string f.b0) (.string (f.b1.extract 0 p ++ A ++ f.b1.extract r f.b1.size)) (.int .i64 f.e0) (.int .i64 f.e1) (.int .i64 f.lim) rfl; obtain ⟨V6, hV, st⟩ := st; rw [hV]; clear hV
  have fc := And.intro (st.box 3 rfl).f5 (And.intro (st.box 2 rfl).f4 (And.intro (st.box 1 rfl).f5 (st.box 0 rfl).f5))
  exact bodyPost_ret (v := .tuple #[.agg #[.string f.b0, .string (f.b1.extract 0 p ++ A ++ f.b1.extract r f.b1.size), .int .i64 f.e0, .int .i64 f.e1, .int .i64 f.lim], .int .i64 0]) (by simp [results, Tryz.results45, go_sem, fc]) rfl ⟨rfl, st.lo⟩

theorem Box.grown {t : TypeId} {W W' : World} {row : Option Nat} {B : Nat} {vs : List Value} (h : Box t W B vs) (hg : W.grownBy W' row) (hn : ∀ k, row = some k → B < k) : Box t W' B vs := (hg.block B h.lt (fun e => Nat.lt_irrefl _ (hn B e.symm))).trans h
def eraF (s m : ByteArray) (i : Nat) : UInt8 := eraB (gd (bl s) i 0) (gd (bl m) i 0)
theorem eraT_is (s m : ByteArray) : eraT s m = bs (upto (eraF s m) s.size) := rfl
theorem eraF_odd {s m : ByteArray} {k : Nat} (h : k < m.size) (o : m[k].toNat % 2 = 1) : eraF s m k = 255 := by
  unfold eraF eraB; rw [gd_in m k 0 h, if_pos o]
theorem eraF_even {s m : ByteArray} {k : Nat} (hk : k < s.size) (h : k < m.size) (o : ¬ m[k].toNat % 2 = 1) : eraF s m k = s[k] := by
  unfold eraF eraB; rw [gd_in m k 0 h, if_neg o, gd_in s k 0 hk]
theorem eraF_out {s m : ByteArray} {k : Nat} (hk : k < s.size) (h : ¬ k < m.size) : eraF s m k = s[k] := by
  unfold eraF eraB; rw [gd_out m k 0 (by omega), gd_in s k 0 hk]; rfl

set_option maxRecDepth 100000 in
set_option maxHeartbeats 4000000 in
theorem refTear2_0 (f : Fl) (q : Int) (d m : ByteArray) (W : World) (hf : f.fit) (hd : d.size ≤ maxLen) (hq : -9223372036854775808 ≤ q ∧ q ≤ 9223372036854775807) (hm : m.size ≤ maxLen) (he : eraseErr f 0 = 0) :
    Gives Tryz.prog 45 #[.agg #[.string f.b0, .string f.b1, .int .i64 f.e0, .int .i64 f.e1, .int .i64 f.lim], .agg #[.int .i64 2, .int .i64 0, .int .i64 q, .string d], .string m] W (.tuple #[.agg #[.string (eraT f.b0 m), .string f.b1, .int .i64 (f.e0 + 1), .int .i64 f.e1, .int .i64 f.lim], .int .i64 0]) := by
  obtain ⟨i0, hi, hz0, hz1, hz2⟩ := info_parts Tryz.info_u8
  have hs : f.b0.size ≤ 140737488351232 := hf.z0
  have hg : eraseF f 0 = ⟨blankT f.b0.size, f.b1, f.e0 + 1, f.e1, f.lim⟩ := by rw [eraseF_banks he]; rfl
  have TD := Lib.hid (fun (W : World) => (show Gives Tryz.prog 46 #[.agg #[.string f.b0, .string f.b1, .int .i64 f.e0, .int .i64 f.e1, .int .i64 f.lim], .agg #[.int .i64 2, .int .i64 0, .int .i64 q, .string d]] W (.tuple #[.agg #[.string (blankT f.b0.size), .string f.b1, .int .i64 (f.e0 + 1), .int .i64 f.e1, .int .i64 f.lim], .int .i64 0]) from by have h := refDo2 f 0 q d W hf hd hq; rwa [he, hg] at h))
  rw [eraT_is]
  clear he hg
  unfold maxLen at hm
  have st := Bs.in3 W 35 [.string f.b0, .string f.b1, .int .i64 f.e0, .int .i64 f.e1, .int .i64 f.lim] 105 [.int .i64 2, .int .i64 0, .int .i64 q, .string d] 35 [.string ⟨#[]⟩, .string ⟨#[]⟩, .int .i64 0, .int .i64 0, .int .i64 0]
  go_enter Tryz.func45, Tryz.ntmps45
  go_wp2_with fail; refine callB st (TD.out _) ?_; clear st; intro V1 st
  have hcw := (st.box 0 rfl).lt
  replace st := st.alloc 35 [.string (blankT f.b0.size), .string f.b1, .int .i64 (f.e0 + 1), .int .i64 f.e1, .int .i64 f.lim]
  have fc := And.intro (st.box 3 rfl).f5 (And.intro (st.box 2 rfl).f4 (And.intro (st.box 1 rfl).f5 (st.box 0 rfl).f5))
  go_wp2
  clear fc
  replace st := st.name; obtain ⟨V2, hV, st⟩ := st; have hz : V2.heap.size = V1.heap.size + 1 := by rw [← hV]; simp
  rw [hV]; clear hV
  have hown := World.ownsRow_made (base := V2.heap.size) (e := 5) (size := 1) V2 #[] 0 (Nat.le_refl _) (by simp) rfl; rw [hz] at hown
  have K : Below V2.heap.size V2 (V2.alloc (.cells #[] 5)) := (Below.refl _ _).alloc (Nat.le_refl _) _; generalize V1.heap.size + 1 = cb at *
  go_loopw [12, 13] (fun v i w => ∃ k : Nat, k ≤ f.b0.size ∧ i = .int .i64 k ∧ w.ownsRow cb 5 1 v k ((upto (eraF f.b0 m) k).map b8v) ∧ Below V2.heap.size V2 w)
    (fun _ i _ => f.b0.size - (intOf i).toNat)
  case atStart => exact ⟨0, Nat.zero_le _, rfl, hown, K⟩
  case round =>
    clear hown K; obtain ⟨k, hk, rfl, hown, K⟩ := hrel
    by_cases hlt : k < f.b0.size
    · by_cases hin : k < m.size
      · have hin2 : (k : Int) < (m.size : Int) := by omega
        by_cases hodd : m[k].toNat % 2 = 1
        · have hlt2 : (k : Int) < (f.b0.size : Int) := by omega
          have n1 : (((m[k].toNat : Int) % 2) == 1) = true := by rw [beq_iff_eq]; omega
          have He := Lib.hid (show b8v (eraF f.b0 m k) = Value.int .u8 255 from by rw [eraF_odd hin hodd]; rfl)
          have hzk := K.size
          go_wp2_with (at_builtin; refine wpList_append_own _ rfl _ _ 108 rfl cb 5 i0 (.int .u8 0) 1 1 Tryz.underlying108 hi hz0 hz1 hz2 rfl (by decide) _ _ _ rfl (hown.alloc _) ⟨wr.heap.size, 0, none⟩ 1 1 [b8v (eraF f.b0 m k)] rfl rfl ?c1 ?c2 ?c3 ?c4 ?c5 ?_)
          case c1 => rw [He.out]; first | exact cell_one_new _ _ _ | exact fun _ _ h => h
          case c2 => simp [Value.oneCell', b8v]
          case c3 => unfold maxLen; omega
          case c4 => omega
          case c5 => (try simp); omega
          intro v' w1 hown' hgrow _
          have K' := (K.alloc K.size _).grown hgrow (by simp; omega) (fun j e => by have := (hown.lt j e).1; omega)
          have H3 := Lib.hid (show w1.ownsRow cb 5 1 v' (k + 1) ((upto (eraF f.b0 m) (k + 1)).map b8v) from by rw [upto_succ, List.map_append]; exact hown')
          clear hown' hown hgrow K He hzk
          go_wp2
          go_roundw
          case rel => exact ⟨k + 1, by omega, by go_num, H3.out, K'⟩
          case measure => simp [intOf]; omega
        · have hlt2 : (k : Int) < (f.b0.size : Int) := by omega
          have n1 : (((m[k].toNat : Int) % 2) == 1) = false := by rw [beq_eq_false_iff_ne]; omega
          have He := Lib.hid (show b8v (eraF f.b0 m k) = Value.int .u8 (f.b0[k].toNat : Int) from by rw [eraF_even hlt hin hodd]; rfl)
          have hzk := K.size
          go_wp2_with (at_builtin; refine wpList_append_own _ rfl _ _ 108 rfl cb 5 i0 (.int .u8 0) 1 1 Tryz.underlying108 hi hz0 hz1 hz2 rfl (by decide) _ _ _ rfl (hown.alloc _) ⟨wr.heap.size, 0, none⟩ 1 1 [b8v (eraF f.b0 m k)] rfl rfl ?c1 ?c2 ?c3 ?c4 ?c5 ?_)
          case c1 => rw [He.out]; first | exact cell_one_new _ _ _ | exact fun _ _ h => h
          case c2 => simp [Value.oneCell', b8v]
          case c3 => unfold maxLen; omega
          case c4 => omega
          case c5 => (try simp); omega
          intro v' w1 hown' hgrow _
          have K' := (K.alloc K.size _).grown hgrow (by simp; omega) (fun j e => by have := (hown.lt j e).1; omega)
          have H3 := Lib.hid (show w1.ownsRow cb 5 1 v' (k + 1) ((upto (eraF f.b0 m) (k + 1)).map b8v) from by rw [upto_succ, List.map_append]; exact hown')
          clear hown' hown hgrow K He hzk
          go_wp2
          go_roundw
          case rel => exact ⟨k + 1, by omega, by go_num, H3.out, K'⟩
          case measure => simp [intOf]; omega
      · have hlt2 : (k : Int) < (f.b0.size : Int) := by omega
        have hin2 : ¬ (k : Int) < (m.size : Int) := by omega
        have He := Lib.hid (show b8v (eraF f.b0 m k) = Value.int .u8 (f.b0[k].toNat : Int) from by rw [eraF_out hlt hin]; rfl)
        have hzk := K.size
        go_wp2_with (at_builtin; refine wpList_append_own _ rfl _ _ 108 rfl cb 5 i0 (.int .u8 0) 1 1 Tryz.underlying108 hi hz0 hz1 hz2 rfl (by decide) _ _ _ rfl (hown.alloc _) ⟨wr.heap.size, 0, none⟩ 1 1 [b8v (eraF f.b0 m k)] rfl rfl ?c1 ?c2 ?c3 ?c4 ?c5 ?_)
        case c1 => rw [He.out]; first | exact cell_one_new _ _ _ | exact fun _ _ h => h
        case c2 => simp [Value.oneCell', b8v]
        case c3 => unfold maxLen; omega
        case c4 => omega
        case c5 => (try simp); omega
        intro v' w1 hown' hgrow _
        have K' := (K.alloc K.size _).grown hgrow (by simp; omega) (fun j e => by have := (hown.lt j e).1; omega)
        have H3 := Lib.hid (show w1.ownsRow cb 5 1 v' (k + 1) ((upto (eraF f.b0 m) (k + 1)).map b8v) from by rw [upto_succ, List.map_append]; exact hown')
        clear hown' hown hgrow K He hzk
        go_wp2
        go_roundw
        case rel => exact ⟨k + 1, by omega, by go_num, H3.out, K'⟩
        case measure => simp [intOf]; omega
    · obtain rfl : k = f.b0.size := by omega
      have hcv := owns_string (P := Tryz.prog) (src := 108) (dst := 9) Tryz.underlying108 Tryz.underlying5 Tryz.underlying9 hown
      replace st := st.seq K; clear hown K hz
      have fc := And.intro (st.box 3 rfl).f5 (And.intro (st.box 2 rfl).f4 (And.intro (st.box 1 rfl).f5 (st.box 0 rfl).f5))
      go_wp2
      clear fc
      replace st := (st.set 0 0 (.string (bs (upto (eraF f.b0 m) f.b0.size))) rfl).name; obtain ⟨V2, hV, st⟩ := st; rw [hV]; clear hV
      have fc := And.intro (st.box 3 rfl).f5 (And.intro (st.box 2 rfl).f4 (And.intro (st.box 1 rfl).f5 (st.box 0 rfl).f5))
      clear fc
      replace st := st.put5 1 (.string (bs (upto (eraF f.b0 m) f.b0.size))) (.string f.b1) (.int .i64 (f.e0 + 1)) (.int .i64 f.e1) (.int .i64 f.lim) rfl; obtain ⟨V3, hV, st⟩ := st; rw [hV]; clear hV
      have fc := And.intro (st.box 3 rfl).f5 (And.intro (st.box 2 rfl).f4 (And.intro (st.box 1 rfl).f5 (st.box 0 rfl).f5))
      exact bodyPost_ret (v := .tuple #[.agg #[.string (bs (upto (eraF f.b0 m) f.b0.size)), .string f.b1, .int .i64 (f.e0 + 1), .int .i64 f.e1, .int .i64 f.lim], .int .i64 0]) (by simp [results, Tryz.results45, go_sem, fc]) rfl ⟨rfl, st.lo⟩

set_option maxRecDepth 100000 in
set_option maxHeartbeats 4000000 in
theorem refTear2_1 (f : Fl) (q : Int) (d m : ByteArray) (W : World) (hf : f.fit) (hd : d.size ≤ maxLen) (hq : -9223372036854775808 ≤ q ∧ q ≤ 9223372036854775807) (hm : m.size ≤ maxLen) (he : eraseErr f 1 = 0) :
    Gives Tryz.prog 45 #[.agg #[.string f.b0, .string f.b1, .int .i64 f.e0, .int .i64 f.e1, .int .i64 f.lim], .agg #[.int .i64 2, .int .i64 1, .int .i64 q, .string d], .string m] W (.tuple #[.agg #[.string f.b0, .string (eraT f.b1 m), .int .i64 f.e0, .int .i64 (f.e1 + 1), .int .i64 f.lim], .int .i64 0]) := by
  obtain ⟨i0, hi, hz0, hz1, hz2⟩ := info_parts Tryz.info_u8
  have hs : f.b1.size ≤ 140737488351232 := hf.z1
  have hg : eraseF f 1 = ⟨f.b0, blankT f.b1.size, f.e0, f.e1 + 1, f.lim⟩ := by rw [eraseF_banks he]; exact if_neg (by decide)
  have TD := Lib.hid (fun (W : World) => (show Gives Tryz.prog 46 #[.agg #[.string f.b0, .string f.b1, .int .i64 f.e0, .int .i64 f.e1, .int .i64 f.lim], .agg #[.int .i64 2, .int .i64 1, .int .i64 q, .string d]] W (.tuple #[.agg #[.string f.b0, .string (blankT f.b1.size), .int .i64 f.e0, .int .i64 (f.e1 + 1), .int .i64 f.lim], .int .i64 0]) from by have h := refDo2 f 1 q d W hf hd hq; rwa [he, hg] at h))
  rw [eraT_is]
  clear he hg
  unfold maxLen at hm
  have st := Bs.in3 W 35 [.string f.b0, .string f.b1, .int .i64 f.e0, .int .i64 f.e1, .int .i64 f.lim] 105 [.int .i64 2, .int .i64 1, .int .i64 q, .string d] 35 [.string ⟨#[]⟩, .string ⟨#[]⟩, .int .i64 0, .int .i64 0, .int .i64 0]
  go_enter Tryz.func45, Tryz.ntmps45
  go_wp2_with fail; refine callB st (TD.out _) ?_; clear st; intro V1 st
  have hcw := (st.box 0 rfl).lt
  replace st := st.alloc 35 [.string f.b0, .string (blankT f.b1.size), .int .i64 f.e0, .int .i64 (f.e1 + 1), .int .i64 f.lim]
  have fc := And.intro (st.box 3 rfl).f5 (And.intro (st.box 2 rfl).f4 (And.intro (st.box 1 rfl).f5 (st.box 0 rfl).f5))
  go_wp2
  clear fc
  replace st := st.name; obtain ⟨V2, hV, st⟩ := st; have hz : V2.heap.size = V1.heap.size + 1 := by rw [← hV]; simp
  rw [hV]; clear hV
  have hown := World.ownsRow_made (base := V2.heap.size) (e := 5) (size := 1) V2 #[] 0 (Nat.le_refl _) (by simp) rfl; rw [hz] at hown
  have K : Below V2.heap.size V2 (V2.alloc (.cells #[] 5)) := (Below.refl _ _).alloc (Nat.le_refl _) _; generalize V1.heap.size + 1 = cb at *
  go_loopw [12, 13] (fun v i w => ∃ k : Nat, k ≤ f.b1.size ∧ i = .int .i64 k ∧ w.ownsRow cb 5 1 v k ((upto (eraF f.b1 m) k).map b8v) ∧ Below V2.heap.size V2 w)
    (fun _ i _ => f.b1.size - (intOf i).toNat)
  case atStart => exact ⟨0, Nat.zero_le _, rfl, hown, K⟩
  case round =>
    clear hown K; obtain ⟨k, hk, rfl, hown, K⟩ := hrel
    by_cases hlt : k < f.b1.size
    · by_cases hin : k < m.size
      · have hin2 : (k : Int) < (m.size : Int) := by omega
        by_cases hodd : m[k].toNat % 2 = 1
        · have hlt2 : (k : Int) < (f.b1.size : Int) := by omega
          have n1 : (((m[k].toNat : Int) % 2) == 1) = true := by rw [beq_iff_eq]; omega
          have He := Lib.hid (show b8v (eraF f.b1 m k) = Value.int .u8 255 from by rw [eraF_odd hin hodd]; rfl)
          have hzk := K.size
          go_wp2_with (at_builtin; refine wpList_append_own _ rfl _ _ 108 rfl cb 5 i0 (.int .u8 0) 1 1 Tryz.underlying108 hi hz0 hz1 hz2 rfl (by decide) _ _ _ rfl (hown.alloc _) ⟨wr.heap.size, 0, none⟩ 1 1 [b8v (eraF f.b1 m k)] rfl rfl ?c1 ?c2 ?c3 ?c4 ?c5 ?_)
          case c1 => rw [He.out]; first | exact cell_one_new _ _ _ | exact fun _ _ h => h
          case c2 => simp [Value.oneCell', b8v]
          case c3 => unfold maxLen; omega
          case c4 => omega
          case c5 => (try simp); omega
          intro v' w1 hown' hgrow _
          have K' := (K.alloc K.size _).grown hgrow (by simp; omega) (fun j e => by have := (hown.lt j e).1; omega)
          have H3 := Lib.hid (show w1.ownsRow cb 5 1 v' (k + 1) ((upto (eraF f.b1 m) (k + 1)).map b8v) from by rw [upto_succ, List.map_append]; exact hown')
          clear hown' hown hgrow K He hzk
          go_wp2
          go_roundw
          case rel => exact ⟨k + 1, by omega, by go_num, H3.out, K'⟩
          case measure => simp [intOf]; omega
        · have hlt2 : (k : Int) < (f.b1.size : Int) := by omega
          have n1 : (((m[k].toNat : Int) % 2) == 1) = false := by rw [beq_eq_false_iff_ne]; omega
          have He := Lib.hid (show b8v (eraF f.b1 m k) = Value.int .u8 (f.b1[k].toNat : Int) from by rw [eraF_even hlt hin hodd]; rfl)
          have hzk := K.size
          go_wp2_with (at_builtin; refine wpList_append_own _ rfl _ _ 108 rfl cb 5 i0 (.int .u8 0) 1 1 Tryz.underlying108 hi hz0 hz1 hz2 rfl (by decide) _ _ _ rfl (hown.alloc _) ⟨wr.heap.size, 0, none⟩ 1 1 [b8v (eraF f.b1 m k)] rfl rfl ?c1 ?c2 ?c3 ?c4 ?c5 ?_)
          case c1 => rw [He.out]; first | exact cell_one_new _ _ _ | exact fun _ _ h => h
          case c2 => simp [Value.oneCell', b8v]
          case c3 => unfold maxLen; omega
          case c4 => omega
          case c5 => (try simp); omega
          intro v' w1 hown' hgrow _
          have K' := (K.alloc K.size _).grown hgrow (by simp; omega) (fun j e => by have := (hown.lt j e).1; omega)
          have H3 := Lib.hid (show w1.ownsRow cb 5 1 v' (k + 1) ((upto (eraF f.b1 m) (k + 1)).map b8v) from by rw [upto_succ, List.map_append]; exact hown')
          clear hown' hown hgrow K He hzk
          go_wp2
          go_roundw
          case rel => exact ⟨k + 1, by omega, by go_num, H3.out, K'⟩
          case measure => simp [intOf]; omega
      · have hlt2 : (k : Int) < (f.b1.size : Int) := by omega
        have hin2 : ¬ (k : Int) < (m.size : Int) := by omega
        have He := Lib.hid (show b8v (eraF f.b1 m k) = Value.int .u8 (f.b1[k].toNat : Int) from by rw [eraF_out hlt hin]; rfl)
        have hzk := K.size
        go_wp2_with (at_builtin; refine wpList_append_own _ rfl _ _ 108 rfl cb 5 i0 (.int .u8 0) 1 1 Tryz.underlying108 hi hz0 hz1 hz2 rfl (by decide) _ _ _ rfl (hown.alloc _) ⟨wr.heap.size, 0, none⟩ 1 1 [b8v (eraF f.b1 m k)] rfl rfl ?c1 ?c2 ?c3 ?c4 ?c5 ?_)
        case c1 => rw [He.out]; first | exact cell_one_new _ _ _ | exact fun _ _ h => h
        case c2 => simp [Value.oneCell', b8v]
        case c3 => unfold maxLen; omega
        case c4 => omega
        case c5 => (try simp); omega
        intro v' w1 hown' hgrow _
        have K' := (K.alloc K.size _).grown hgrow (by simp; omega) (fun j e => by have := (hown.lt j e).1; omega)
        have H3 := Lib.hid (show w1.ownsRow cb 5 1 v' (k + 1) ((upto (eraF f.b1 m) (k + 1)).map b8v) from by rw [upto_succ, List.map_append]; exact hown')
        clear hown' hown hgrow K He hzk
        go_wp2
        go_roundw
        case rel => exact ⟨k + 1, by omega, by go_num, H3.out, K'⟩
        case measure => simp [intOf]; omega
    · obtain rfl : k = f.b1.size := by omega
      have hcv := owns_string (P := Tryz.prog) (src := 108) (dst := 9) Tryz.underlying108 Tryz.underlying5 Tryz.underlying9 hown
      replace st := st.seq K; clear hown K hz
      have fc := And.intro (st.box 3 rfl).f5 (And.intro (st.box 2 rfl).f4 (And.intro (st.box 1 rfl).f5 (st.box 0 rfl).f5))
      go_wp2
      clear fc
      replace st := (st.set 0 1 (.string (bs (upto (eraF f.b1 m) f.b1.size))) rfl).name; obtain ⟨V2, hV, st⟩ := st; rw [hV]; clear hV
      have fc := And.intro (st.box 3 rfl).f5 (And.intro (st.box 2 rfl).f4 (And.intro (st.box 1 rfl).f5 (st.box 0 rfl).f5))
      clear fc
      replace st := st.put5 1 (.string f.b0) (.string (bs (upto (eraF f.b1 m) f.b1.size))) (.int .i64 f.e0) (.int .i64 (f.e1 + 1)) (.int .i64 f.lim) rfl; obtain ⟨V3, hV, st⟩ := st; rw [hV]; clear hV
      have fc := And.intro (st.box 3 rfl).f5 (And.intro (st.box 2 rfl).f4 (And.intro (st.box 1 rfl).f5 (st.box 0 rfl).f5))
      exact bodyPost_ret (v := .tuple #[.agg #[.string f.b0, .string (bs (upto (eraF f.b1 m) f.b1.size)), .int .i64 f.e0, .int .i64 (f.e1 + 1), .int .i64 f.lim], .int .i64 0]) (by simp [results, Tryz.results45, go_sem, fc]) rfl ⟨rfl, st.lo⟩

theorem ref04Tear (f : Fl) (o : PwOp) (m : ByteArray) (W : World) (hf : f.fit) (ho : o.ok) (hm : m.size ≤ maxLen) :
    Gives Tryz.prog 45 #[.agg #[.string f.b0, .string f.b1, .int .i64 f.e0, .int .i64 f.e1, .int .i64 f.lim], .agg #[.int .i64 o.kind, .int .i64 o.bank, .int .i64 o.q, .string o.d], .string m] W (.tuple #[.agg #[.string (tearF f o m).b0, .string (tearF f o m).b1, .int .i64 (tearF f o m).e0, .int .i64 (tearF f o m).e1, .int .i64 (tearF f o m).lim], .int .i64 (doErr f o)]) := by
  by_cases he : doErr f o = 0
  · obtain ⟨hb, hk⟩ := doErr_bank he
    have hq := ho.nq
    have hd := ho.sd
    obtain ⟨k, b, q, d⟩ := o
    dsimp only at hb hk hq hd ⊢
    rcases hk with rfl | rfl
    · rw [tearF_prog he rfl, he]
      dsimp only
      have hp : progErr f b q d = 0 := (doErr_prog (o := (⟨1, b, q, d⟩ : PwOp)) rfl).symm.trans he
      obtain ⟨hq0, hq1⟩ := prog_bounds hp
      obtain ⟨p, rfl⟩ := Int.eq_ofNat_of_zero_le hq0
      rw [Int.toNat_natCast] at hq1 ⊢
      rcases hb with rfl | rfl
      · exact refTear1_0 f p d m W hf hd hm hp hq1
      · exact refTear1_1 f p d m W hf hd hm hp hq1
    · rw [tearF_erase he rfl, he]
      dsimp only
      have hp : eraseErr f b = 0 := (doErr_erase (o := (⟨2, b, q, d⟩ : PwOp)) rfl).symm.trans he
      rcases hb with rfl | rfl
      · rw [eraseF_banks hp]; exact refTear2_0 f q d m W hf hd hq hm hp
      · rw [eraseF_banks hp]; exact refTear2_1 f q d m W hf hd hq hm hp
  · rw [tearF_err he]
    exact refTear0 f o m W hf ho he
end Go.Proofs.YthmpjoiifglbjaaGreat

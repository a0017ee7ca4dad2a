/- The program's own plan: contracts only. -/
import Derived.Test.YthmpjoiifglbjaaGreatRows
import Derived.Test.YthmpjoiifglbjaaGreatJourFit
import Derived.Test.YthmpjoiifglbjaaGreatPowerDo
import Derived.Test.YthmpjoiifglbjaaGreatRecOwn
import Derived.Test.YthmpjoiifglbjaaGreatLayoutOwn
import Derived.Test.YthmpjoiifglbjaaGreatBs
import Derived.Test.YthmpjoiifglbjaaGreatInts
import Derived.WalkKit
import Derived.ProofKit
import Derived.Lib.Hide
import Derived.OwnWalk
import Derived.Deep.RegionHeld3
import Derived.WalkLawsBesides
import Derived.WalkSpells
import Derived.IntWalk
import Derived.Maps.AppendAt
import Derived.Maps.Range
import Derived.Test.YthmpjoiifglbjaaGreatPickOwn
import Derived.BigQuiet
namespace Go.Proofs.YthmpjoiifglbjaaGreat
open Go.RowKit
set_option linter.unusedVariables false
set_option linter.unusedSimpArgs false

set_option maxRecDepth 100000 in
set_option maxHeartbeats 4000000 in
theorem own11program (b s k a : Int) (q d : Nat) (D : ByteArray) (W : World) :
    Gives Tryz.prog 117 #[.agg #[.int .i64 b, .int .i64 s, .int .i64 k, .int .u64 (q : Int), .int .u64 (d : Int)], .int .i64 a, .string D] W (.agg #[.int .i64 1, .int .i64 b, .int .i64 a, .string D]) := by
  have st := Bs.in2 W 149 [.int .i64 b, .int .i64 s, .int .i64 k, .int .u64 (q : Int), .int .u64 (d : Int)] 95 [.int .i64 1, .int .i64 b, .int .i64 a, .string D]
  go_enter Tryz.func117, Tryz.ntmps117
  have fc := And.intro (st.box 1 rfl).f5 (st.box 0 rfl).f4
  go_wp2
  exact bodyPost_ret (v := .agg #[.int .i64 1, .int .i64 b, .int .i64 a, .string D]) (by simp [results, Tryz.results117, go_sem, fc]) rfl ⟨rfl, st.lo⟩

set_option maxRecDepth 100000 in
set_option maxHeartbeats 4000000 in
theorem own11erase (b s k : Int) (q d : Nat) (W : World) :
    Gives Tryz.prog 116 #[.agg #[.int .i64 b, .int .i64 s, .int .i64 k, .int .u64 (q : Int), .int .u64 (d : Int)]] W (.agg #[.int .i64 2, .int .i64 b, .int .i64 0, .string ⟨#[]⟩]) := by
  have st := Bs.in2 W 149 [.int .i64 b, .int .i64 s, .int .i64 k, .int .u64 (q : Int), .int .u64 (d : Int)] 95 [.int .i64 2, .int .i64 b, .int .i64 0, .string ⟨#[]⟩]
  go_enter Tryz.func116, Tryz.ntmps116
  have fc := And.intro (st.box 1 rfl).f5 (st.box 0 rfl).f4
  go_wp2
  exact bodyPost_ret (v := .agg #[.int .i64 2, .int .i64 b, .int .i64 0, .string ⟨#[]⟩]) (by simp [results, Tryz.results116, go_sem, fc]) rfl ⟨rfl, st.lo⟩

set_option maxRecDepth 100000 in
set_option maxHeartbeats 4000000 in
theorem own11body (b s k : Int) (q d : Nat) (W : World) (hr : Rec.ok ⟨k, q, d⟩) :
    Gives Tryz.prog 91 #[.agg #[.int .i64 b, .int .i64 s, .int .i64 k, .int .u64 (q : Int), .int .u64 (d : Int)]] W (.agg #[.int .i64 1, .int .i64 b, .int .i64 (atF s), .string (bs (bodyL ⟨k, q, d⟩))]) := by
  have TP := Lib.hid (fun (a : Int) (D : ByteArray) (V : World) => own11program b s k a q d D V)
  have TA := Lib.hid (fun (V : World) => own05At s V)
  have TB := Lib.hid (fun (V : World) => own07Body ⟨k, q, d⟩ V hr)
  have st := Bs.in2 W 149 [.int .i64 b, .int .i64 s, .int .i64 k, .int .u64 (q : Int), .int .u64 (d : Int)] 95 [.int .i64 0, .int .i64 0, .int .i64 0, .string ⟨#[]⟩]
  go_enter Tryz.func91, Tryz.ntmps91
  have fc := And.intro (st.box 1 rfl).f5 (st.box 0 rfl).f4
  go_wp2_with fail
  clear fc
  replace st := st.name; obtain ⟨V1, hV, st⟩ := st; rw [hV]; clear hV
  have fc := And.intro (st.box 1 rfl).f5 (st.box 0 rfl).f4
  clear fc
  replace st := st.drew
  refine rh (fun w => C5 w (W.heap.size) (.int .i64 b) (.int .i64 s) (.int .i64 k) (.int .u64 (q : Int)) (.int .u64 (d : Int))) ((st.box 1 rfl).c5) fun hHeld => ?_
  generalize V1.drew = V2 at *
  refine tq 0 ?_; refine tq 1 ?_; refine tq 2 ?_; refine tq 4 ?_; refine tq 5 ?_
  try simp only [Act.put, l1, l2, l3, l4, l5, l6]
  refine rd 3 fun K hK => ?_
  have fc := And.intro (st.box 1 rfl).f5 (st.box 0 rfl).f4
  go_simp
  refine callB st (TA.out _) ?_; clear st fc; intro V3 st
  have fc := And.intro (st.box 1 rfl).f5 (st.box 0 rfl).f4
  try go_wp2_with fail
  clear hHeld fc; refine hK.out _ _ ((st.box 1 rfl).c5) fun hHeld => ?_; clear hK K
  try simp only [Act.put, l1, l2, l3, l4, l5, l6]
  refine rd 6 fun K hK => ?_
  have fc := And.intro (st.box 1 rfl).f5 (st.box 0 rfl).f4
  go_simp
  refine callB st (TB.out _) ?_; clear st fc; intro V4 st
  have fc := And.intro (st.box 1 rfl).f5 (st.box 0 rfl).f4
  try go_wp2_with fail
  clear hHeld fc; refine hK.out _ _ ((st.box 1 rfl).c5) fun hHeld => ?_; clear hK K
  try simp only [Act.put, l1, l2, l3, l4, l5, l6]
  refine rd 7 fun K hK => ?_
  have fc := And.intro (st.box 1 rfl).f5 (st.box 0 rfl).f4
  go_simp
  refine callB st (TP.out _ _ _) ?_; clear st fc; intro V5 st
  have fc := And.intro (st.box 1 rfl).f5 (st.box 0 rfl).f4
  try go_wp2_with fail
  clear hHeld fc; refine hK.out _ _ ((st.box 1 rfl).c5) fun hHeld => ?_; clear hK K
  try simp only [Act.put, l1, l2, l3, l4, l5, l6]
  refine rd 8 fun K hK => ?_
  have fc := And.intro (st.box 1 rfl).f5 (st.box 0 rfl).f4
  go_simp
  try go_wp2_with fail
  clear fc
  replace st := st.put4 0 (.int .i64 1) (.int .i64 b) (.int .i64 (atF s)) (.string (bs (bodyL ⟨k, q, d⟩))) rfl; obtain ⟨V6, hV, st⟩ := st; rw [hV]; clear hV
  clear hHeld; refine hK.out _ _ ((st.box 1 rfl).c5) fun hHeld => ?_; clear hK K
  try simp only [Act.put, l1, l2, l3, l4, l5, l6]
  refine wpAnyH_done (by kernel_rfl) ?_ _; clear hHeld
  have fc := And.intro (st.box 1 rfl).f5 (st.box 0 rfl).f4
  go_wp2
  exact bodyPost_ret (v := .agg #[.int .i64 1, .int .i64 b, .int .i64 (atF s), .string (bs (bodyL ⟨k, q, d⟩))]) (by simp [results, Tryz.results91, go_sem, fc]) rfl ⟨rfl, st.lo⟩

set_option maxRecDepth 100000 in
set_option maxHeartbeats 4000000 in
theorem own11mark (b s k : Int) (q d : Nat) (W : World) :
    Gives Tryz.prog 92 #[.agg #[.int .i64 b, .int .i64 s, .int .i64 k, .int .u64 (q : Int), .int .u64 (d : Int)]] W (.agg #[.int .i64 1, .int .i64 b, .int .i64 (markF s), .string (bs markL)]) := by
  have TP := Lib.hid (fun (a : Int) (D : ByteArray) (V : World) => own11program b s k a q d D V)
  have TA := Lib.hid (fun (V : World) => own05Mark s V)
  have TB := Lib.hid (fun (V : World) => own07Mark V)
  have st := Bs.in2 W 149 [.int .i64 b, .int .i64 s, .int .i64 k, .int .u64 (q : Int), .int .u64 (d : Int)] 95 [.int .i64 0, .int .i64 0, .int .i64 0, .string ⟨#[]⟩]
  go_enter Tryz.func92, Tryz.ntmps92
  have fc := And.intro (st.box 1 rfl).f5 (st.box 0 rfl).f4
  go_wp2_with fail
  clear fc
  replace st := st.name; obtain ⟨V1, hV, st⟩ := st; rw [hV]; clear hV
  have fc := And.intro (st.box 1 rfl).f5 (st.box 0 rfl).f4
  clear fc
  replace st := st.drew
  refine rh (fun w => C5 w (W.heap.size) (.int .i64 b) (.int .i64 s) (.int .i64 k) (.int .u64 (q : Int)) (.int .u64 (d : Int))) ((st.box 1 rfl).c5) fun hHeld => ?_
  generalize V1.drew = V2 at *
  refine tq 0 ?_; refine tq 1 ?_; refine tq 2 ?_
  try simp only [Act.put, l1, l2, l3, l4, l5, l6]
  refine rd 3 fun K hK => ?_
  have fc := And.intro (st.box 1 rfl).f5 (st.box 0 rfl).f4
  go_simp
  refine callB st (TA.out _) ?_; clear st fc; intro V3 st
  have fc := And.intro (st.box 1 rfl).f5 (st.box 0 rfl).f4
  try go_wp2_with fail
  clear hHeld fc; refine hK.out _ _ ((st.box 1 rfl).c5) fun hHeld => ?_; clear hK K
  try simp only [Act.put, l1, l2, l3, l4, l5, l6]
  refine rd 4 fun K hK => ?_
  have fc := And.intro (st.box 1 rfl).f5 (st.box 0 rfl).f4
  go_simp
  refine callB st (TB.out _) ?_; clear st fc; intro V4 st
  have fc := And.intro (st.box 1 rfl).f5 (st.box 0 rfl).f4
  try go_wp2_with fail
  clear hHeld fc; refine hK.out _ _ ((st.box 1 rfl).c5) fun hHeld => ?_; clear hK K
  try simp only [Act.put, l1, l2, l3, l4, l5, l6]
  refine rd 5 fun K hK => ?_
  have fc := And.intro (st.box 1 rfl).f5 (st.box 0 rfl).f4
  go_simp
  refine callB st (TP.out _ _ _) ?_; clear st fc; intro V5 st
  have fc := And.intro (st.box 1 rfl).f5 (st.box 0 rfl).f4
  try go_wp2_with fail
  clear hHeld fc; refine hK.out _ _ ((st.box 1 rfl).c5) fun hHeld => ?_; clear hK K
  try simp only [Act.put, l1, l2, l3, l4, l5, l6]
  refine rd 6 fun K hK => ?_
  have fc := And.intro (st.box 1 rfl).f5 (st.box 0 rfl).f4
  go_simp
  try go_wp2_with fail
  clear fc
  replace st := st.put4 0 (.int .i64 1) (.int .i64 b) (.int .i64 (markF s)) (.string (bs markL)) rfl; obtain ⟨V6, hV, st⟩ := st; rw [hV]; clear hV
  clear hHeld; refine hK.out _ _ ((st.box 1 rfl).c5) fun hHeld => ?_; clear hK K
  try simp only [Act.put, l1, l2, l3, l4, l5, l6]
  refine wpAnyH_done (by kernel_rfl) ?_ _; clear hHeld
  have fc := And.intro (st.box 1 rfl).f5 (st.box 0 rfl).f4
  go_wp2
  exact bodyPost_ret (v := .agg #[.int .i64 1, .int .i64 b, .int .i64 (markF s), .string (bs markL)]) (by simp [results, Tryz.results92, go_sem, fc]) rfl ⟨rfl, st.lo⟩

set_option maxRecDepth 100000 in
set_option maxHeartbeats 4000000 in
theorem own11kill (b s k : Int) (q d : Nat) (W : World) :
    Gives Tryz.prog 115 #[.agg #[.int .i64 b, .int .i64 s, .int .i64 k, .int .u64 (q : Int), .int .u64 (d : Int)]] W (.agg #[.int .i64 1, .int .i64 b, .int .i64 (atF s), .string ⟨#[0, 0]⟩]) := by
  have TP := Lib.hid (fun (a : Int) (D : ByteArray) (V : World) => own11program b s k a q d D V)
  have TA := Lib.hid (fun (V : World) => own05At s V)
  have st := Bs.in2 W 149 [.int .i64 b, .int .i64 s, .int .i64 k, .int .u64 (q : Int), .int .u64 (d : Int)] 95 [.int .i64 0, .int .i64 0, .int .i64 0, .string ⟨#[]⟩]
  go_enter Tryz.func115, Tryz.ntmps115
  have fc := And.intro (st.box 1 rfl).f5 (st.box 0 rfl).f4
  go_wp2_with fail
  clear fc
  replace st := st.name; obtain ⟨V1, hV, st⟩ := st; rw [hV]; clear hV
  have fc := And.intro (st.box 1 rfl).f5 (st.box 0 rfl).f4
  clear fc
  replace st := st.drew
  refine rh (fun w => C5 w (W.heap.size) (.int .i64 b) (.int .i64 s) (.int .i64 k) (.int .u64 (q : Int)) (.int .u64 (d : Int))) ((st.box 1 rfl).c5) fun hHeld => ?_
  generalize V1.drew = V2 at *
  refine tq 0 ?_; refine tq 1 ?_; refine tq 2 ?_
  try simp only [Act.put, l1, l2, l3, l4, l5, l6]
  refine rd 3 fun K hK => ?_
  have fc := And.intro (st.box 1 rfl).f5 (st.box 0 rfl).f4
  go_simp
  refine callB st (TA.out _) ?_; clear st fc; intro V3 st
  have fc := And.intro (st.box 1 rfl).f5 (st.box 0 rfl).f4
  try go_wp2_with fail
  clear hHeld fc; refine hK.out _ _ ((st.box 1 rfl).c5) fun hHeld => ?_; clear hK K
  try simp only [Act.put, l1, l2, l3, l4, l5, l6]
  refine rd 4 fun K hK => ?_
  have fc := And.intro (st.box 1 rfl).f5 (st.box 0 rfl).f4
  go_simp
  refine callB st (TP.out _ _ _) ?_; clear st fc; intro V4 st
  have fc := And.intro (st.box 1 rfl).f5 (st.box 0 rfl).f4
  try go_wp2_with fail
  clear hHeld fc; refine hK.out _ _ ((st.box 1 rfl).c5) fun hHeld => ?_; clear hK K
  try simp only [Act.put, l1, l2, l3, l4, l5, l6]
  refine rd 5 fun K hK => ?_
  have fc := And.intro (st.box 1 rfl).f5 (st.box 0 rfl).f4
  go_simp
  try go_wp2_with fail
  clear fc
  replace st := st.put4 0 (.int .i64 1) (.int .i64 b) (.int .i64 (atF s)) (.string ⟨#[0, 0]⟩) rfl; obtain ⟨V5, hV, st⟩ := st; rw [hV]; clear hV
  clear hHeld; refine hK.out _ _ ((st.box 1 rfl).c5) fun hHeld => ?_; clear hK K
  try simp only [Act.put, l1, l2, l3, l4, l5, l6]
  refine wpAnyH_done (by kernel_rfl) ?_ _; clear hHeld
  have fc := And.intro (st.box 1 rfl).f5 (st.box 0 rfl).f4
  go_wp2
  exact bodyPost_ret (v := .agg #[.int .i64 1, .int .i64 b, .int .i64 (atF s), .string ⟨#[0, 0]⟩]) (by simp [results, Tryz.results115, go_sem, fc]) rfl ⟨rfl, st.lo⟩

theorem Tryz.info_op : (Tryz.prog.info? 95).map (fun i => (i.zero, i.size, i.bytes)) = some (some (.agg #[.int .i64 0, .int .i64 0, .int .i64 0, .string ⟨#[]⟩]), 4, 40) := by kernel_rfl
theorem opp_news (W : World) (t : TypeId) (o : PwOp) : ∀ j u, (opV o)[j]? = some u → (W.alloc (.cells #[.int .i64 o.kind, .int .i64 o.bank, .int .i64 o.q, .string o.d] t)).cell? ((⟨W.heap.size, 0, none⟩ : Addr).add j) = some u := fun j u h => by
  have e : (⟨W.heap.size, 0, none⟩ : Addr).add j = ⟨W.heap.size, j, none⟩ := by simp [Addr.add]; intro h; exact h.symm
  rw [e]; exact (Box.new t W (opV o)).cell j h
theorem range_step (l : List PwOp) (O : Nat → PwOp) (k : Nat) : (l ++ (List.range (k + 1)).map O).flatMap opV = (l ++ (List.range k).map O).flatMap opV ++ opV (O k) := by
  rw [List.range_succ, List.map_append, List.map_singleton, ← List.append_assoc, List.flatMap_append (xs := l ++ _), List.flatMap_singleton]
/-- The row that is written lies in no block that was there, or in the one that was handed in. -/
def Mine (W : World) (v0 v : Value) : Prop := v.ownBlock = v0.ownBlock ∨ ∃ j, v.ownBlock = some j ∧ W.heap.size < j

set_option maxRecDepth 100000 in
set_option maxHeartbeats 4000000 in
theorem own11gather (n : Nat) (F : Nat → Nat) (O : Nat → PwOp) (b s kd : Int) (q d : Nat) (gs base : Nat) (v : Value) (l : List PwOp) (W : World)
    (HF : ∀ j, j < n → ∀ V : World, Calls Tryz.prog (F j) #[.agg #[.int .i64 b, .int .i64 s, .int .i64 kd, .int .u64 (q : Int), .int .u64 (d : Int)]] V fun e V' => e = .returned (.agg #[.int .i64 (O j).kind, .int .i64 (O j).bank, .int .i64 (O j).q, .string (O j).d]) ∧ Below V.heap.size V V')
    (HE : ∀ j, j < n → ∀ V : World, (callFunc (F j) #[.agg #[.int .i64 b, .int .i64 s, .int .i64 kd, .int .u64 (q : Int), .int .u64 (d : Int)]]).run Tryz.prog V = .ok (.enter (F j) #[.agg #[.int .i64 b, .int .i64 s, .int .i64 kd, .int .u64 (q : Int), .int .u64 (d : Int)]]) V)
    (hs : ∀ j, j < n → W.cell? ⟨gs, j, none⟩ = some (.func (.func (F j)) #[] #[])) (hg : gs < W.heap.size) (hgv : some gs ≠ v.ownBlock)
    (hown : W.ownsRow base 95 4 v l.length (l.flatMap opV)) (hbase : base ≤ W.heap.size) (hn : l.length + n ≤ 100) :
    Calls Tryz.prog 90 #[v, .agg #[.int .i64 b, .int .i64 s, .int .i64 kd, .int .u64 (q : Int), .int .u64 (d : Int)], .slice (some ⟨gs, 0, none⟩) n n] W fun e W' => ∃ v', e = .returned v' ∧ W'.ownsRow base 95 4 v' (l.length + n) ((l ++ (List.range n).map O).flatMap opV) ∧ W.grownBy W' v.ownBlock ∧ Mine W v v' := by
  obtain ⟨i0, hi, hz0, hz1, hz2⟩ := info_parts Tryz.info_op
  have hlv := hown.lt
  have xp := Box.new 149 W [.int .i64 b, .int .i64 s, .int .i64 kd, .int .u64 (q : Int), .int .u64 (d : Int)]
  have hG : W.grownBy (W.alloc (.cells #[.int .i64 b, .int .i64 s, .int .i64 kd, .int .u64 (q : Int), .int .u64 (d : Int)] 149)) v.ownBlock := World.grownBy_alloc _ _ _
  have hown1 := hown.alloc (.cells #[.int .i64 b, .int .i64 s, .int .i64 kd, .int .u64 (q : Int), .int .u64 (d : Int)] 149)
  have HF2 := Lib.hid HF
  have HE2 := Lib.hid HE
  have HS2 := Lib.hid hs
  have HL2 := Lib.hid hlv
  have HV2 := Lib.hid hgv
  clear HF HE hs hlv hgv hown
  go_enter Tryz.func90, Tryz.ntmps90
  go_wp2
  go_loopw [0, 11] (fun u i w => ∃ k : Nat, k ≤ n ∧ i = .int .i64 k ∧ w.ownsRow base 95 4 u (l.length + k) ((l ++ (List.range k).map O).flatMap opV) ∧ W.grownBy w v.ownBlock ∧ Mine W v u ∧ Box 149 w W.heap.size [.int .i64 b, .int .i64 s, .int .i64 kd, .int .u64 (q : Int), .int .u64 (d : Int)])
    (fun _ i _ => n - (intOf i).toNat)
  case atStart => exact ⟨0, Nat.zero_le _, rfl, by simpa using hown1, hG, Or.inl rfl, xp⟩
  case round =>
    obtain ⟨k, hk, rfl, hown, hG, hM, xp⟩ := hrel
    have hsz := hG.size
    by_cases hlt : k < n
    · have hcell : wr.cell? ⟨gs, k, none⟩ = some (.func (.func (F k)) #[] #[]) := hG.cell (HS2.out k hlt) HV2.out
      have TF := Lib.hid (fun V => HF2.out k hlt V)
      have TE := HE2.out k hlt
      have H3 := Lib.hid (fun (w : World) (u : Value) (h : w.ownsRow base 95 4 u (l.length + k + 1) ((l ++ (List.range k).map O).flatMap opV ++ opV (O k))) => (show w.ownsRow base 95 4 u (l.length + (k + 1)) ((l ++ (List.range (k + 1)).map O).flatMap opV) from by rw [range_step]; exact h))
      have j1 : (k : Int) < (n : Int) := by omega
      have j3 : (0 : Int) ≤ (k : Int) := by omega
      generalize O k = o at *
      generalize (l ++ (List.range k).map O).flatMap opV = xs at *
      obtain ⟨xp0, xpz0, xp1, xpz1, xp2, xpz2, xp3, xpz3, xp4, xpz4⟩ := xp.f5
      go_wp2_with fail
      refine (TF.out _).mono ?_
      rintro e V1 ⟨rfl, hk1⟩
      have hg1 : wr.grownBy V1 none := ⟨hk1.os, hk1.tape, hk1.output, hk1.size, fun j hj _ => hk1.block j hj⟩
      have hown2 := hown.kept hg1 (by cases hv : u0.ownBlock <;> simp)
      have hul := hown.lt
      replace xp := xp.seq hk1
      replace hG := hG.trans (World.grownBy.but hg1 v.ownBlock)
      have hsz1 := hG.size
      clear xp0 xpz0 xp1 xpz1 xp2 xpz2 xp3 xpz3 xp4 xpz4 hcell TE hown
      replace hG := Lib.hid hG
      replace xp := Lib.hid xp
      replace hM := Lib.hid hM
      go_wp2_with (at_builtin; refine wpList_append_own_at _ rfl _ _ 62 rfl base 95 i0 (.agg #[.int .i64 0, .int .i64 0, .int .i64 0, .string ⟨#[]⟩]) 4 40 Tryz.underlying62 hi hz0 hz1 hz2 rfl (by decide) _ _ _ rfl (hown2.alloc _) ⟨V1.heap.size, 0, none⟩ 1 1 (opV o) rfl rfl ?c1 ?c2 ?c3 ?c4 ?c5 ?_)
      case c1 => exact opp_news _ _ _
      case c2 => simp [Value.oneCell', opV]
      case c3 => unfold maxLen; omega
      case c4 => omega
      case c5 => simp; omega
      intro v' w1 hown' hgrow _ hat
      have hL := HL2.out
      have hW0 : W.heap.size < V1.heap.size := xp.out.lt
      have hub : ∀ j, u0.ownBlock = some j → v.ownBlock = some j ∨ W.heap.size < j := fun j hj => by
        rcases hM.out with h | ⟨i, h, hi2⟩
        · exact Or.inl (h.symm.trans hj)
        · rw [hj] at h; cases h; exact Or.inr hi2
      have hG' : W.grownBy w1 v.ownBlock := (hG.out.andThen (World.grownBy_alloc _ _ none) (fun j hj => by cases hj)).andThen hgrow (fun j hj => by
        rcases hub j hj with h | h
        · exact Or.inr h
        · exact Or.inl (Nat.le_of_lt h))
      have hM' : Mine W v v' := by
        rcases hat with h | h
        · rcases hM.out with h2 | ⟨i, h2, hi2⟩
          · exact Or.inl (h.trans h2)
          · exact Or.inr ⟨i, h.trans h2, hi2⟩
        · exact Or.inr ⟨_, h, by (try rw [World.size_alloc]); omega⟩
      have xp' : Box 149 w1 W.heap.size [.int .i64 b, .int .i64 s, .int .i64 kd, .int .u64 (q : Int), .int .u64 (d : Int)] := (hgrow.block _ (by (try rw [World.size_alloc]); omega) (fun hj => by
        rcases hub _ hj.symm with h | h
        · have := (hL _ h).2; omega
        · omega)).trans (xp.out.alloc _)
      have H4 := H3.out _ _ hown'
      replace H4 := Lib.hid H4
      replace hG' := Lib.hid hG'
      replace hM' := Lib.hid hM'
      replace xp' := Lib.hid xp'
      clear hown' hown2 hgrow hat H3 hG hM xp hub hL TF
      go_wp2
      go_roundw
      case rel => exact ⟨k + 1, by omega, by go_num, H4.out, hG'.out, hM'.out, xp'.out⟩
      case measure => simp [intOf]; omega
    · obtain rfl : k = n := by omega
      go_wp2
      go_ret
      exact ⟨_, rfl, hown, hG, hM⟩

set_option maxRecDepth 100000 in
set_option maxHeartbeats 4000000 in
theorem own11two (b s k : Int) (q d : Nat) (gs base : Nat) (v : Value) (l : List PwOp) (W : World) (hr : Rec.ok ⟨k, q, d⟩) (x : Box 151 W gs [.func (.func 91) #[] #[], .func (.func 92) #[] #[]]) (hgv : some gs ≠ v.ownBlock)
    (hown : W.ownsRow base 95 4 v l.length (l.flatMap opV)) (hbase : base ≤ W.heap.size) (hn : l.length ≤ 20) :
    Calls Tryz.prog 90 #[v, .agg #[.int .i64 b, .int .i64 s, .int .i64 k, .int .u64 (q : Int), .int .u64 (d : Int)], .slice (some ⟨gs, 0, none⟩) 2 2] W fun e W' => ∃ v', e = .returned v' ∧ W'.ownsRow base 95 4 v' (l ++ [(⟨1, b, atF s, bs (bodyL ⟨k, q, d⟩)⟩ : PwOp), (⟨1, b, markF s, bs markL⟩ : PwOp)]).length ((l ++ [(⟨1, b, atF s, bs (bodyL ⟨k, q, d⟩)⟩ : PwOp), (⟨1, b, markF s, bs markL⟩ : PwOp)]).flatMap opV) ∧ Below base W W' := by
  have h := own11gather 2 (fun j => if j = 0 then 91 else 92) (fun j => if j = 0 then (⟨1, b, atF s, bs (bodyL ⟨k, q, d⟩)⟩ : PwOp) else (⟨1, b, markF s, bs markL⟩ : PwOp)) b s k q d gs base v l W (fun j hj => by
    rcases (show j = 0 ∨ j = 1 from by omega) with rfl | rfl
    · exact fun V => own11body b s k q d V hr
    · exact fun V => own11mark b s k q d V) (fun j hj => by
    rcases (show j = 0 ∨ j = 1 from by omega) with rfl | rfl
    · exact fun V => by kernel_rfl
    · exact fun V => by kernel_rfl) (fun j hj => by
    rcases (show j = 0 ∨ j = 1 from by omega) with rfl | rfl
    · exact x.cell 0 rfl
    · exact x.cell 1 rfl) x.lt hgv hown hbase (by omega)
  refine h.mono ?_
  rintro e W' ⟨v', rfl, h1, h2, _⟩
  exact ⟨v', rfl, by rw [List.length_append]; exact h1, (Below.refl _ _).grown h2 hbase (fun j e => (hown.lt j e).1)⟩

set_option maxRecDepth 100000 in
set_option maxHeartbeats 4000000 in
theorem own11onekill (b s k : Int) (q d : Nat) (gs base : Nat) (v : Value) (l : List PwOp) (W : World) (x : Box 151 W gs [.func (.func 115) #[] #[]]) (hgv : some gs ≠ v.ownBlock)
    (hown : W.ownsRow base 95 4 v l.length (l.flatMap opV)) (hbase : base ≤ W.heap.size) (hn : l.length ≤ 20) :
    Calls Tryz.prog 90 #[v, .agg #[.int .i64 b, .int .i64 s, .int .i64 k, .int .u64 (q : Int), .int .u64 (d : Int)], .slice (some ⟨gs, 0, none⟩) 1 1] W fun e W' => ∃ v', e = .returned v' ∧ W'.ownsRow base 95 4 v' (l ++ [(⟨1, b, atF s, ⟨#[0, 0]⟩⟩ : PwOp)]).length ((l ++ [(⟨1, b, atF s, ⟨#[0, 0]⟩⟩ : PwOp)]).flatMap opV) ∧ Below base W W' := by
  have h := own11gather 1 (fun j => 115) (fun j => (⟨1, b, atF s, ⟨#[0, 0]⟩⟩ : PwOp)) b s k q d gs base v l W (fun j hj => by
    obtain rfl : j = 0 := by omega
    exact fun V => own11kill b s k q d V) (fun j hj => by
    obtain rfl : j = 0 := by omega
    exact fun V => by kernel_rfl) (fun j hj => by
    obtain rfl : j = 0 := by omega
    exact x.cell 0 rfl) x.lt hgv hown hbase (by omega)
  refine h.mono ?_
  rintro e W' ⟨v', rfl, h1, h2, _⟩
  exact ⟨v', rfl, by rw [List.length_append]; exact h1, (Below.refl _ _).grown h2 hbase (fun j e => (hown.lt j e).1)⟩

set_option maxRecDepth 100000 in
set_option maxHeartbeats 4000000 in
theorem own11onerase (b s k : Int) (q d : Nat) (gs base : Nat) (v : Value) (l : List PwOp) (W : World) (x : Box 151 W gs [.func (.func 116) #[] #[]]) (hgv : some gs ≠ v.ownBlock)
    (hown : W.ownsRow base 95 4 v l.length (l.flatMap opV)) (hbase : base ≤ W.heap.size) (hn : l.length ≤ 20) :
    Calls Tryz.prog 90 #[v, .agg #[.int .i64 b, .int .i64 s, .int .i64 k, .int .u64 (q : Int), .int .u64 (d : Int)], .slice (some ⟨gs, 0, none⟩) 1 1] W fun e W' => ∃ v', e = .returned v' ∧ W'.ownsRow base 95 4 v' (l ++ [(⟨2, b, 0, ⟨#[]⟩⟩ : PwOp)]).length ((l ++ [(⟨2, b, 0, ⟨#[]⟩⟩ : PwOp)]).flatMap opV) ∧ Below base W W' := by
  have h := own11gather 1 (fun j => 116) (fun j => (⟨2, b, 0, ⟨#[]⟩⟩ : PwOp)) b s k q d gs base v l W (fun j hj => by
    obtain rfl : j = 0 := by omega
    exact fun V => own11erase b s k q d V) (fun j hj => by
    obtain rfl : j = 0 := by omega
    exact fun V => by kernel_rfl) (fun j hj => by
    obtain rfl : j = 0 := by omega
    exact x.cell 0 rfl) x.lt hgv hown hbase (by omega)
  refine h.mono ?_
  rintro e W' ⟨v', rfl, h1, h2, _⟩
  exact ⟨v', rfl, by rw [List.length_append]; exact h1, (Below.refl _ _).grown h2 hbase (fun j e => (hown.lt j e).1)⟩

/-- A slice of the call's own holds these ops. -/
theorem ops_of_row {w : World} {base : Nat} {t : TypeId} {v : Value} {l : List PwOp} (h : w.ownsRow base t 4 v l.length (l.flatMap opV)) :
    ∃ (A : Option Addr) (c : Nat), v = .slice A l.length c ∧ OpsAt w A l ∧ (l.length ≤ c ∧ c ≤ maxLen) := by
  rcases h.2 with ⟨hv, h0⟩ | ⟨g, cap, cur, hv, hb, hg, hc1, hc2, hsz, htk⟩
  · exact ⟨none, 0, by rw [hv, h0], fun hn => by omega, by omega, by unfold maxLen; omega⟩
  · refine ⟨_, cap, hv, fun hn => ⟨g, 0, rfl, ?_, fun k o ho => ?_⟩, hc1, hc2⟩
    · rcases Nat.lt_or_ge g w.heap.size with hlt | hge
      · exact hlt
      · rw [Array.getElem?_eq_none hge] at hg; cases hg
    · have hk : k < l.length := (List.getElem?_eq_some_iff.1 ho).1
      have hc : ∀ i, i < 4 → w.cell? ⟨g, 0 + k * 4 + i, none⟩ = (opV o)[i]? := fun i hi => by
        rw [cell_of_row w g _ _ _ (0, 0) hg, Nat.zero_add, ← flat_op l k i o ho hi, ← htk, List.getElem?_take, if_pos (by omega)]; simp
      exact ⟨hc 0 (by decide), hc 1 (by decide), hc 2 (by decide), hc 3 (by decide)⟩

end Go.Proofs.YthmpjoiifglbjaaGreat
namespace Go.Proofs.YthmpjoiifglbjaaGreat
open Go.RowKit
set_option linter.unusedVariables false
set_option linter.unusedSimpArgs false

set_option maxRecDepth 100000 in
set_option maxHeartbeats 4000000 in
theorem own11Append (bank slot : Int) (seq d : Nat) (W : World) (hs : seq < 18446744073709551616) (hd : d < 18446744073709551616) :
    Calls Tryz.prog 62 #[.int .i64 bank, .int .i64 slot, .int .u64 (seq : Int), .int .u64 (d : Int)] W fun e W' => ∃ (A : Option Addr) (c : Nat), e = .returned (.slice A (appL bank slot seq d).length c) ∧ OpsAt W' A (appL bank slot seq d) ∧ ((appL bank slot seq d).length ≤ c ∧ c ≤ maxLen) ∧ Below W.heap.size W W' := by
  have T2 := Lib.hid (fun (gs base : Nat) (v : Value) (l : List PwOp) (V : World) => own11two bank slot 2 seq d gs base v l V (rec_ok 2 (by decide) hs hd))
  rw [show appL bank slot seq d = [(⟨1, bank, atF slot, bs (bodyL ⟨2, seq, d⟩)⟩ : PwOp), (⟨1, bank, markF slot, bs markL⟩ : PwOp)] from rfl]
  generalize bs (bodyL ⟨2, seq, d⟩) = D at *
  generalize bs markL = M at *
  generalize atF slot = a at *
  generalize markF slot = m at *
  clear hs hd
  have st := Bs.in1 W 149 [.int .i64 bank, .int .i64 slot, .int .i64 2, .int .u64 (seq : Int), .int .u64 (d : Int)]
  go_enter Tryz.func62, Tryz.ntmps62
  have fc := (st.box 0 rfl).f5
  go_wp2_with fail
  clear fc
  replace st := st.name; obtain ⟨V0, hV, st⟩ := st; have hz : V0.heap.size = W.heap.size + 1 := by rw [← hV]; simp
  rw [hV]; clear hV; have K := Below.refl V0.heap.size V0
  have hx := Box.new 151 V0 [.func (.func 91) #[] #[], .func (.func 92) #[] #[]]; rw [hz] at hx
  have hown : (V0.alloc (.cells #[.func (.func 91) #[] #[], .func (.func 92) #[] #[]] 151)).ownsRow V0.heap.size 95 4 (.slice none 0 0) ([] : List PwOp).length (([] : List PwOp).flatMap opV) := World.ownsRow_nil _ _ _ _
  refine (T2.out _ _ _ _ _ hx (fun h => by cases h) hown (by simp) (by simp)).mono ?_; rintro e V1 ⟨v1, rfl, hw, hk⟩
  replace K := (K.alloc K.size (.cells #[.func (.func 91) #[] #[], .func (.func 92) #[] #[]] 151)).trans hk; clear hk hx hown hz
  have hown : V1.ownsRow V0.heap.size 95 4 v1 ([(⟨1, bank, a, D⟩ : PwOp), (⟨1, bank, m, M⟩ : PwOp)] : List PwOp).length (([(⟨1, bank, a, D⟩ : PwOp), (⟨1, bank, m, M⟩ : PwOp)] : List PwOp).flatMap opV) := hw; clear hw
  obtain ⟨A, c, rfl, hO, hcc⟩ := ops_of_row hown; clear hown; go_wp2; go_ret; exact ⟨A, c, rfl, hO, hcc, (st.seq K).lo⟩

set_option maxRecDepth 100000 in
set_option maxHeartbeats 4000000 in
theorem own11Fresh (bank : Int) (kill : Bool) (g seq d : Nat) (W : World) (hg : g < 18446744073709551616) (hs : seq < 18446744073709551616) (hd : d < 18446744073709551616) :
    Calls Tryz.prog 89 #[.int .i64 bank, .bool kill, .int .u64 (g : Int), .int .u64 (seq : Int), .int .u64 (d : Int)] W fun e W' => ∃ (A : Option Addr) (c : Nat), e = .returned (.slice A (freshL bank kill g seq d).length c) ∧ OpsAt W' A (freshL bank kill g seq d) ∧ ((freshL bank kill g seq d).length ≤ c ∧ c ≤ maxLen) ∧ Below W.heap.size W W' := by
  have T2 := Lib.hid (fun (gs base : Nat) (v : Value) (l : List PwOp) (V : World) => own11two bank 1 3 seq d gs base v l V (rec_ok 3 (by decide) hs hd))
  have TH := Lib.hid (fun (gs base : Nat) (v : Value) (l : List PwOp) (V : World) => own11two bank 0 1 g 0 gs base v l V (rec_ok 1 (by decide) hg (by decide)))
  have TE := Lib.hid (fun (gs base : Nat) (v : Value) (l : List PwOp) (V : World) => own11onerase bank 0 1 g 0 gs base v l V)
  have TK := Lib.hid (fun (gs base : Nat) (v : Value) (l : List PwOp) (V : World) => own11onekill bank 0 1 g 0 gs base v l V)
  have HL : freshL bank kill g seq d = if kill = true then [(⟨1, bank, 0, ⟨#[0, 0]⟩⟩ : PwOp), (⟨2, bank, 0, ⟨#[]⟩⟩ : PwOp), (⟨1, bank, 24, bs (bodyL ⟨3, seq, d⟩)⟩ : PwOp), (⟨1, bank, 46, bs markL⟩ : PwOp), (⟨1, bank, 0, bs (bodyL ⟨1, g, 0⟩)⟩ : PwOp), (⟨1, bank, 22, bs markL⟩ : PwOp)] else [(⟨2, bank, 0, ⟨#[]⟩⟩ : PwOp), (⟨1, bank, 24, bs (bodyL ⟨3, seq, d⟩)⟩ : PwOp), (⟨1, bank, 46, bs markL⟩ : PwOp), (⟨1, bank, 0, bs (bodyL ⟨1, g, 0⟩)⟩ : PwOp), (⟨1, bank, 22, bs markL⟩ : PwOp)] := rfl
  rw [HL]
  clear HL
  generalize bs (bodyL ⟨3, seq, d⟩) = D at *
  generalize bs (bodyL ⟨1, g, 0⟩) = H at *
  generalize bs markL = M at *
  clear hg hs hd
  cases kill
  · rw [if_neg (by decide)]
    have st := Bs.in2 W 149 [.int .i64 bank, .int .i64 0, .int .i64 1, .int .u64 (g : Int), .int .u64 0] 149 [.int .i64 bank, .int .i64 1, .int .i64 3, .int .u64 (seq : Int), .int .u64 (d : Int)]
    go_enter Tryz.func89, Tryz.ntmps89
    have fc := (st.box 1 rfl).f5
    go_wp2_with fail
    clear fc
    replace st := st.name; obtain ⟨V0, hV, st⟩ := st; have hz : V0.heap.size = W.heap.size + 2 := by rw [← hV]; simp
    rw [hV]; clear hV; have K := Below.refl V0.heap.size V0
    have hx := Box.new 151 V0 [.func (.func 116) #[] #[]]; rw [hz] at hx
    have hown : (V0.alloc (.cells #[.func (.func 116) #[] #[]] 151)).ownsRow V0.heap.size 95 4 (.slice none 0 0) ([] : List PwOp).length (([] : List PwOp).flatMap opV) := World.ownsRow_nil _ _ _ _
    refine (TE.out _ _ _ _ _ hx (fun h => by cases h) hown (by simp) (by simp)).mono ?_; rintro e V1 ⟨v1, rfl, hw, hk⟩
    replace K := (K.alloc K.size (.cells #[.func (.func 116) #[] #[]] 151)).trans hk; clear hk hx hown hz
    have hown : V1.ownsRow V0.heap.size 95 4 v1 ([(⟨2, bank, 0, ⟨#[]⟩⟩ : PwOp)] : List PwOp).length (([(⟨2, bank, 0, ⟨#[]⟩⟩ : PwOp)] : List PwOp).flatMap opV) := hw; clear hw
    have hx := Lib.hid (Box.new 151 V1 [.func (.func 91) #[] #[], .func (.func 92) #[] #[]])
    have hne := Lib.hid (show some V1.heap.size ≠ v1.ownBlock from fun h => by have := (hown.lt _ h.symm).2; omega)
    replace hown := Lib.hid (hown.alloc (.cells #[.func (.func 91) #[] #[], .func (.func 92) #[] #[]] 151))
    have fc := ((st.seq K).box 0 rfl).f5; go_wp2_with fail; clear fc
    refine (T2.out _ _ _ _ _ hx.out hne.out hown.out (by rw [World.size_alloc]; exact Nat.le_succ_of_le K.size) (by simp)).mono ?_; rintro e V2 ⟨v2, rfl, hw, hk⟩
    replace K := (K.alloc K.size (.cells #[.func (.func 91) #[] #[], .func (.func 92) #[] #[]] 151)).trans hk; clear hk hx hown hne
    have hown : V2.ownsRow V0.heap.size 95 4 v2 ([(⟨2, bank, 0, ⟨#[]⟩⟩ : PwOp), (⟨1, bank, 24, D⟩ : PwOp), (⟨1, bank, 46, M⟩ : PwOp)] : List PwOp).length (([(⟨2, bank, 0, ⟨#[]⟩⟩ : PwOp), (⟨1, bank, 24, D⟩ : PwOp), (⟨1, bank, 46, M⟩ : PwOp)] : List PwOp).flatMap opV) := hw; clear hw
    have hx := Lib.hid (Box.new 151 V2 [.func (.func 91) #[] #[], .func (.func 92) #[] #[]])
    have hne := Lib.hid (show some V2.heap.size ≠ v2.ownBlock from fun h => by have := (hown.lt _ h.symm).2; omega)
    replace hown := Lib.hid (hown.alloc (.cells #[.func (.func 91) #[] #[], .func (.func 92) #[] #[]] 151))
    have fc := ((st.seq K).box 1 rfl).f5; go_wp2_with fail; clear fc
    refine (TH.out _ _ _ _ _ hx.out hne.out hown.out (by rw [World.size_alloc]; exact Nat.le_succ_of_le K.size) (by simp)).mono ?_; rintro e V3 ⟨v3, rfl, hw, hk⟩
    replace K := (K.alloc K.size (.cells #[.func (.func 91) #[] #[], .func (.func 92) #[] #[]] 151)).trans hk; clear hk hx hown hne
    have hown : V3.ownsRow V0.heap.size 95 4 v3 ([(⟨2, bank, 0, ⟨#[]⟩⟩ : PwOp), (⟨1, bank, 24, D⟩ : PwOp), (⟨1, bank, 46, M⟩ : PwOp), (⟨1, bank, 0, H⟩ : PwOp), (⟨1, bank, 22, M⟩ : PwOp)] : List PwOp).length (([(⟨2, bank, 0, ⟨#[]⟩⟩ : PwOp), (⟨1, bank, 24, D⟩ : PwOp), (⟨1, bank, 46, M⟩ : PwOp), (⟨1, bank, 0, H⟩ : PwOp), (⟨1, bank, 22, M⟩ : PwOp)] : List PwOp).flatMap opV) := hw; clear hw
    obtain ⟨A, c, rfl, hO, hcc⟩ := ops_of_row hown; clear hown; go_wp2; go_ret; exact ⟨A, c, rfl, hO, hcc, (st.seq K).lo⟩
  · rw [if_pos rfl]
    have st := Bs.in2 W 149 [.int .i64 bank, .int .i64 0, .int .i64 1, .int .u64 (g : Int), .int .u64 0] 149 [.int .i64 bank, .int .i64 1, .int .i64 3, .int .u64 (seq : Int), .int .u64 (d : Int)]
    go_enter Tryz.func89, Tryz.ntmps89
    have fc := (st.box 1 rfl).f5
    go_wp2_with fail
    clear fc
    replace st := st.name; obtain ⟨V0, hV, st⟩ := st; have hz : V0.heap.size = W.heap.size + 2 := by rw [← hV]; simp
    rw [hV]; clear hV; have K := Below.refl V0.heap.size V0
    have hx := Box.new 151 V0 [.func (.func 115) #[] #[]]; rw [hz] at hx
    have hown : (V0.alloc (.cells #[.func (.func 115) #[] #[]] 151)).ownsRow V0.heap.size 95 4 (.slice none 0 0) ([] : List PwOp).length (([] : List PwOp).flatMap opV) := World.ownsRow_nil _ _ _ _
    refine (TK.out _ _ _ _ _ hx (fun h => by cases h) hown (by simp) (by simp)).mono ?_; rintro e V1 ⟨v1, rfl, hw, hk⟩
    replace K := (K.alloc K.size (.cells #[.func (.func 115) #[] #[]] 151)).trans hk; clear hk hx hown hz
    have hown : V1.ownsRow V0.heap.size 95 4 v1 ([(⟨1, bank, 0, ⟨#[0, 0]⟩⟩ : PwOp)] : List PwOp).length (([(⟨1, bank, 0, ⟨#[0, 0]⟩⟩ : PwOp)] : List PwOp).flatMap opV) := hw; clear hw
    have hx := Lib.hid (Box.new 151 V1 [.func (.func 116) #[] #[]])
    have hne := Lib.hid (show some V1.heap.size ≠ v1.ownBlock from fun h => by have := (hown.lt _ h.symm).2; omega)
    replace hown := Lib.hid (hown.alloc (.cells #[.func (.func 116) #[] #[]] 151))
    have fc := ((st.seq K).box 1 rfl).f5; go_wp2_with fail; clear fc
    refine (TE.out _ _ _ _ _ hx.out hne.out hown.out (by rw [World.size_alloc]; exact Nat.le_succ_of_le K.size) (by simp)).mono ?_; rintro e V2 ⟨v2, rfl, hw, hk⟩
    replace K := (K.alloc K.size (.cells #[.func (.func 116) #[] #[]] 151)).trans hk; clear hk hx hown hne
    have hown : V2.ownsRow V0.heap.size 95 4 v2 ([(⟨1, bank, 0, ⟨#[0, 0]⟩⟩ : PwOp), (⟨2, bank, 0, ⟨#[]⟩⟩ : PwOp)] : List PwOp).length (([(⟨1, bank, 0, ⟨#[0, 0]⟩⟩ : PwOp), (⟨2, bank, 0, ⟨#[]⟩⟩ : PwOp)] : List PwOp).flatMap opV) := hw; clear hw
    have hx := Lib.hid (Box.new 151 V2 [.func (.func 91) #[] #[], .func (.func 92) #[] #[]])
    have hne := Lib.hid (show some V2.heap.size ≠ v2.ownBlock from fun h => by have := (hown.lt _ h.symm).2; omega)
    replace hown := Lib.hid (hown.alloc (.cells #[.func (.func 91) #[] #[], .func (.func 92) #[] #[]] 151))
    have fc := ((st.seq K).box 0 rfl).f5; go_wp2_with fail; clear fc
    refine (T2.out _ _ _ _ _ hx.out hne.out hown.out (by rw [World.size_alloc]; exact Nat.le_succ_of_le K.size) (by simp)).mono ?_; rintro e V3 ⟨v3, rfl, hw, hk⟩
    replace K := (K.alloc K.size (.cells #[.func (.func 91) #[] #[], .func (.func 92) #[] #[]] 151)).trans hk; clear hk hx hown hne
    have hown : V3.ownsRow V0.heap.size 95 4 v3 ([(⟨1, bank, 0, ⟨#[0, 0]⟩⟩ : PwOp), (⟨2, bank, 0, ⟨#[]⟩⟩ : PwOp), (⟨1, bank, 24, D⟩ : PwOp), (⟨1, bank, 46, M⟩ : PwOp)] : List PwOp).length (([(⟨1, bank, 0, ⟨#[0, 0]⟩⟩ : PwOp), (⟨2, bank, 0, ⟨#[]⟩⟩ : PwOp), (⟨1, bank, 24, D⟩ : PwOp), (⟨1, bank, 46, M⟩ : PwOp)] : List PwOp).flatMap opV) := hw; clear hw
    have hx := Lib.hid (Box.new 151 V3 [.func (.func 91) #[] #[], .func (.func 92) #[] #[]])
    have hne := Lib.hid (show some V3.heap.size ≠ v3.ownBlock from fun h => by have := (hown.lt _ h.symm).2; omega)
    replace hown := Lib.hid (hown.alloc (.cells #[.func (.func 91) #[] #[], .func (.func 92) #[] #[]] 151))
    have fc := ((st.seq K).box 1 rfl).f5; go_wp2_with fail; clear fc
    refine (TH.out _ _ _ _ _ hx.out hne.out hown.out (by rw [World.size_alloc]; exact Nat.le_succ_of_le K.size) (by simp)).mono ?_; rintro e V4 ⟨v4, rfl, hw, hk⟩
    replace K := (K.alloc K.size (.cells #[.func (.func 91) #[] #[], .func (.func 92) #[] #[]] 151)).trans hk; clear hk hx hown hne
    have hown : V4.ownsRow V0.heap.size 95 4 v4 ([(⟨1, bank, 0, ⟨#[0, 0]⟩⟩ : PwOp), (⟨2, bank, 0, ⟨#[]⟩⟩ : PwOp), (⟨1, bank, 24, D⟩ : PwOp), (⟨1, bank, 46, M⟩ : PwOp), (⟨1, bank, 0, H⟩ : PwOp), (⟨1, bank, 22, M⟩ : PwOp)] : List PwOp).length (([(⟨1, bank, 0, ⟨#[0, 0]⟩⟩ : PwOp), (⟨2, bank, 0, ⟨#[]⟩⟩ : PwOp), (⟨1, bank, 24, D⟩ : PwOp), (⟨1, bank, 46, M⟩ : PwOp), (⟨1, bank, 0, H⟩ : PwOp), (⟨1, bank, 22, M⟩ : PwOp)] : List PwOp).flatMap opV) := hw; clear hw
    obtain ⟨A, c, rfl, hO, hcc⟩ := ops_of_row hown; clear hown; go_wp2; go_ret; exact ⟨A, c, rfl, hO, hcc, (st.seq K).lo⟩

end Go.Proofs.YthmpjoiifglbjaaGreat
namespace Go.Proofs.YthmpjoiifglbjaaGreat
open Go.RowKit
set_option linter.unusedVariables false
set_option linter.unusedSimpArgs false

theorem none_ops (W : World) : OpsAt W none [] := fun h => absurd h (by decide)
theorem u64_next {q : Nat} (h : q < 18446744073709551615) : IntKind.u64.wrap ((q : Int) + 1) = ((q + 1 : Nat) : Int) := by simp [IntKind.wrap, IntKind.bits, IntKind.signed]; omega
theorem u64_nottop {q : Nat} (h : q ≠ topN) (hq : q < 18446744073709551616) : ((q : Int) == 18446744073709551615) = false ∧ q < 18446744073709551615 := by unfold topN at h; exact ⟨beq_eq_false_iff_ne.2 (by omega), by omega⟩
/-- A bank made anew, if it may be erased once more. -/
def rnw (f : Fl) (k : Int) (g q d : Nat) : List PwOp × Int := if f.lim ≤ f.erases k then ([], 4) else (freshL k (goodH f k) g q d, 0)

set_option maxRecDepth 100000 in
set_option maxHeartbeats 4000000 in
theorem own11worn0 (f : Fl) (W : World) :
    Gives Tryz.prog 58 #[.agg #[.string f.b0, .string f.b1, .int .i64 f.e0, .int .i64 f.e1, .int .i64 f.lim], .int .i64 0] W (.bool (decide (f.e0 ≥ f.lim))) := by
  have st := Bs.in1 W 25 [.string f.b0, .string f.b1, .int .i64 f.e0, .int .i64 f.e1, .int .i64 f.lim]
  go_enter Tryz.func58, Tryz.ntmps58
  have fc := (st.box 0 rfl).f5
  go_wp2_with fail
  go_quiet (fail)
  replace st := st.drewN nq
  clear fc
  go_wp2; go_ret; exact ⟨rfl, st.lo⟩

set_option maxRecDepth 100000 in
set_option maxHeartbeats 4000000 in
theorem own11worn1 (f : Fl) (W : World) :
    Gives Tryz.prog 58 #[.agg #[.string f.b0, .string f.b1, .int .i64 f.e0, .int .i64 f.e1, .int .i64 f.lim], .int .i64 1] W (.bool (decide (f.e1 ≥ f.lim))) := by
  have st := Bs.in1 W 25 [.string f.b0, .string f.b1, .int .i64 f.e0, .int .i64 f.e1, .int .i64 f.lim]
  go_enter Tryz.func58, Tryz.ntmps58
  have fc := (st.box 0 rfl).f5
  go_wp2_with fail
  go_quiet (fail)
  replace st := st.drewN nq
  clear fc
  go_wp2; go_ret; exact ⟨rfl, st.lo⟩

set_option maxRecDepth 100000 in
set_option maxHeartbeats 4000000 in
theorem own11renew0 (f : Fl) (g q d : Nat) (W : World) (hf : f.ok) (hg : g < 18446744073709551616) (hq : q < 18446744073709551616) (hd : d < 18446744073709551616) :
    Calls Tryz.prog 60 #[.agg #[.string f.b0, .string f.b1, .int .i64 f.e0, .int .i64 f.e1, .int .i64 f.lim], .int .i64 0, .int .u64 (g : Int), .int .u64 (q : Int), .int .u64 (d : Int)] W fun e W' => ∃ (A : Option Addr) (c : Nat), e = .returned (.tuple #[.slice A (rnw f 0 g q d).1.length c, .int .i64 (rnw f 0 g q d).2]) ∧ OpsAt W' A (rnw f 0 g q d).1 ∧ ((rnw f 0 g q d).1.length ≤ c ∧ c ≤ maxLen) ∧ Below W.heap.size W W' := by
  have TW := Lib.hid (fun (V : World) => own11worn0 f V)
  have TS := Lib.hid (fun (V : World) => own08State f.b0 0 V hf.s0 ⟨by decide, by decide⟩)
  have TF := Lib.hid (fun (kill : Bool) (V : World) => own11Fresh 0 kill g q d V hg hq hd)
  clear hf hg hq hd
  by_cases h : f.lim ≤ f.e0
  · rw [show rnw f 0 g q d = ([], 4) from if_pos h]
    rw [show decide (f.e0 ≥ f.lim) = true from decide_eq_true h] at TW
    clear h
    have st := Bs.in1 W 25 [.string f.b0, .string f.b1, .int .i64 f.e0, .int .i64 f.e1, .int .i64 f.lim]
    go_enter Tryz.func60, Tryz.ntmps60
    have fc := (st.box 0 rfl).f5
    go_wp2_with fail; refine callB st (TW.out _) ?_; clear st fc; intro V1 st
    have fc := (st.box 0 rfl).f5
    go_wp2
    clear fc
    go_ret2
    exact ⟨none, 0, rfl, none_ops _, ⟨by decide, by decide⟩, st.lo⟩
  · rw [show rnw f 0 g q d = (freshL 0 (goodH f 0) g q d, 0) from if_neg h]
    rw [show decide (f.e0 ≥ f.lim) = false from decide_eq_false h] at TW
    clear h
    rw [show goodH f 0 = (stateF f.b0 0 == 2) from rfl]
    generalize stateF f.b0 0 = z at *
    have st := Bs.in1 W 25 [.string f.b0, .string f.b1, .int .i64 f.e0, .int .i64 f.e1, .int .i64 f.lim]
    go_enter Tryz.func60, Tryz.ntmps60
    have fc := (st.box 0 rfl).f5
    go_wp2_with fail; refine callB st (TW.out _) ?_; clear st fc; intro V1 st
    have fc := (st.box 0 rfl).f5
    go_wp2_with fail; refine callB st (TS.out _) ?_; clear st fc; intro V2 st
    have fc := (st.box 0 rfl).f5
    go_wp2_with fail; refine (TF.out _ _).mono ?_; rintro e V3 ⟨A, c, rfl, hA, hc, hk⟩
    clear fc
    replace st := st.seq hk
    clear hk
    have fc := (st.box 0 rfl).f5
    go_wp2
    clear fc
    go_ret2
    exact ⟨A, c, rfl, hA, hc, st.lo⟩

set_option maxRecDepth 100000 in
set_option maxHeartbeats 4000000 in
theorem own11renew1 (f : Fl) (g q d : Nat) (W : World) (hf : f.ok) (hg : g < 18446744073709551616) (hq : q < 18446744073709551616) (hd : d < 18446744073709551616) :
    Calls Tryz.prog 60 #[.agg #[.string f.b0, .string f.b1, .int .i64 f.e0, .int .i64 f.e1, .int .i64 f.lim], .int .i64 1, .int .u64 (g : Int), .int .u64 (q : Int), .int .u64 (d : Int)] W fun e W' => ∃ (A : Option Addr) (c : Nat), e = .returned (.tuple #[.slice A (rnw f 1 g q d).1.length c, .int .i64 (rnw f 1 g q d).2]) ∧ OpsAt W' A (rnw f 1 g q d).1 ∧ ((rnw f 1 g q d).1.length ≤ c ∧ c ≤ maxLen) ∧ Below W.heap.size W W' := by
  have TW := Lib.hid (fun (V : World) => own11worn1 f V)
  have TS := Lib.hid (fun (V : World) => own08State f.b1 0 V hf.s1 ⟨by decide, by decide⟩)
  have TF := Lib.hid (fun (kill : Bool) (V : World) => own11Fresh 1 kill g q d V hg hq hd)
  clear hf hg hq hd
  by_cases h : f.lim ≤ f.e1
  · rw [show rnw f 1 g q d = ([], 4) from if_pos h]
    rw [show decide (f.e1 ≥ f.lim) = true from decide_eq_true h] at TW
    clear h
    have st := Bs.in1 W 25 [.string f.b0, .string f.b1, .int .i64 f.e0, .int .i64 f.e1, .int .i64 f.lim]
    go_enter Tryz.func60, Tryz.ntmps60
    have fc := (st.box 0 rfl).f5
    go_wp2_with fail; refine callB st (TW.out _) ?_; clear st fc; intro V1 st
    have fc := (st.box 0 rfl).f5
    go_wp2
    clear fc
    go_ret2
    exact ⟨none, 0, rfl, none_ops _, ⟨by decide, by decide⟩, st.lo⟩
  · rw [show rnw f 1 g q d = (freshL 1 (goodH f 1) g q d, 0) from if_neg h]
    rw [show decide (f.e1 ≥ f.lim) = false from decide_eq_false h] at TW
    clear h
    rw [show goodH f 1 = (stateF f.b1 0 == 2) from rfl]
    generalize stateF f.b1 0 = z at *
    have st := Bs.in1 W 25 [.string f.b0, .string f.b1, .int .i64 f.e0, .int .i64 f.e1, .int .i64 f.lim]
    go_enter Tryz.func60, Tryz.ntmps60
    have fc := (st.box 0 rfl).f5
    go_wp2_with fail; refine callB st (TW.out _) ?_; clear st fc; intro V1 st
    have fc := (st.box 0 rfl).f5
    go_wp2_with fail; refine callB st (TS.out _) ?_; clear st fc; intro V2 st
    have fc := (st.box 0 rfl).f5
    go_wp2_with fail; refine (TF.out _ _).mono ?_; rintro e V3 ⟨A, c, rfl, hA, hc, hk⟩
    clear fc
    replace st := st.seq hk
    clear hk
    have fc := (st.box 0 rfl).f5
    go_wp2
    clear fc
    go_ret2
    exact ⟨A, c, rfl, hA, hc, st.lo⟩

set_option maxRecDepth 100000 in
set_option maxHeartbeats 4000000 in
theorem own11begin (f : Fl) (d : Nat) (W : World) (hf : f.ok) (hd : d < 18446744073709551616) :
    Calls Tryz.prog 36 #[.agg #[.string f.b0, .string f.b1, .int .i64 f.e0, .int .i64 f.e1, .int .i64 f.lim], .int .u64 (d : Int)] W fun e W' => ∃ (A : Option Addr) (c : Nat), e = .returned (.tuple #[.slice A (if f.e0 < f.lim then rnw f 0 1 1 d else rnw f 1 1 1 d).1.length c, .int .i64 (if f.e0 < f.lim then rnw f 0 1 1 d else rnw f 1 1 1 d).2]) ∧ OpsAt W' A (if f.e0 < f.lim then rnw f 0 1 1 d else rnw f 1 1 1 d).1 ∧ ((if f.e0 < f.lim then rnw f 0 1 1 d else rnw f 1 1 1 d).1.length ≤ c ∧ c ≤ maxLen) ∧ Below W.heap.size W W' := by
  have TW := Lib.hid (fun (V : World) => own11worn0 f V)
  by_cases h : f.e0 < f.lim
  · rw [if_pos h]
    rw [show decide (f.e0 ≥ f.lim) = false from decide_eq_false (by omega)] at TW
    have TR := Lib.hid (fun (V : World) => own11renew0 f 1 1 d V hf (by decide) (by decide) hd)
    generalize rnw f 0 1 1 d = r at *
    clear h hf hd
    have st := Bs.in1 W 25 [.string f.b0, .string f.b1, .int .i64 f.e0, .int .i64 f.e1, .int .i64 f.lim]
    go_enter Tryz.func36, Tryz.ntmps36
    have fc := (st.box 0 rfl).f5
    go_wp2_with fail; refine callB st (TW.out _) ?_; clear st fc; intro V1 st
    have fc := (st.box 0 rfl).f5
    go_wp2_with fail; refine (TR.out  _).mono ?_; rintro e V2 ⟨A, c, rfl, hA, hc, hk⟩
    clear fc
    replace st := st.seq hk
    clear hk
    have fc := (st.box 0 rfl).f5
    go_wp2
    clear fc
    go_ret2
    exact ⟨A, c, rfl, hA, hc, st.lo⟩
  · rw [if_neg h]
    rw [show decide (f.e0 ≥ f.lim) = true from decide_eq_true (by omega)] at TW
    have TR := Lib.hid (fun (V : World) => own11renew1 f 1 1 d V hf (by decide) (by decide) hd)
    have TO := Lib.hid (fun (V : World) => (show Gives Tryz.prog 59 #[.int .i64 0] V (.int .i64 1) from own10Other 0 V))
    generalize rnw f 1 1 1 d = r at *
    clear h hf hd
    have st := Bs.in1 W 25 [.string f.b0, .string f.b1, .int .i64 f.e0, .int .i64 f.e1, .int .i64 f.lim]
    go_enter Tryz.func36, Tryz.ntmps36
    have fc := (st.box 0 rfl).f5
    go_wp2_with fail; refine callB st (TW.out _) ?_; clear st fc; intro V1 st
    have fc := (st.box 0 rfl).f5
    go_wp2_with fail; refine callB st (TO.out _) ?_; clear st fc; intro V2 st
    have fc := (st.box 0 rfl).f5
    go_wp2_with fail; refine (TR.out  _).mono ?_; rintro e V3 ⟨A, c, rfl, hA, hc, hk⟩
    clear fc
    replace st := st.seq hk
    clear hk
    have fc := (st.box 0 rfl).f5
    go_wp2
    clear fc
    go_ret2
    exact ⟨A, c, rfl, hA, hc, st.lo⟩

set_option maxRecDepth 100000 in
set_option maxHeartbeats 4000000 in
theorem own11goOn0 (f : Fl) (pg pq px d : Nat) (W : World) (hf : f.ok) (hg : pg < 18446744073709551616) (hq : pq < 18446744073709551616) (hd : d < 18446744073709551616) :
    Calls Tryz.prog 37 #[.agg #[.string f.b0, .string f.b1, .int .i64 f.e0, .int .i64 f.e1, .int .i64 f.lim], .agg #[.int .i64 0, .int .u64 (pg : Int), .int .u64 (pq : Int), .int .u64 (px : Int)], .int .u64 (d : Int)] W fun e W' => ∃ (A : Option Addr) (c : Nat), e = .returned (.tuple #[.slice A (if pq = topN then (([], 11) : List PwOp × Int) else if 0 < nextF f.b0 then (appL 0 (nextF f.b0 : Int) (pq + 1) d, 0) else if pg = topN then ([], 11) else rnw f 1 (pg + 1) (pq + 1) d).1.length c, .int .i64 (if pq = topN then (([], 11) : List PwOp × Int) else if 0 < nextF f.b0 then (appL 0 (nextF f.b0 : Int) (pq + 1) d, 0) else if pg = topN then ([], 11) else rnw f 1 (pg + 1) (pq + 1) d).2]) ∧ OpsAt W' A (if pq = topN then (([], 11) : List PwOp × Int) else if 0 < nextF f.b0 then (appL 0 (nextF f.b0 : Int) (pq + 1) d, 0) else if pg = topN then ([], 11) else rnw f 1 (pg + 1) (pq + 1) d).1 ∧ ((if pq = topN then (([], 11) : List PwOp × Int) else if 0 < nextF f.b0 then (appL 0 (nextF f.b0 : Int) (pq + 1) d, 0) else if pg = topN then ([], 11) else rnw f 1 (pg + 1) (pq + 1) d).1.length ≤ c ∧ c ≤ maxLen) ∧ Below W.heap.size W W' := by
  have TN := Lib.hid (fun (V : World) => own09Next f.b0 V hf.s0)
  have TO := Lib.hid (fun (V : World) => (show Gives Tryz.prog 59 #[.int .i64 0] V (.int .i64 1) from own10Other 0 V))
  generalize nextF f.b0 = nx at *
  by_cases h1 : pq = topN
  · rw [if_pos h1]
    have m1 : pq = 18446744073709551615 := h1
    subst m1
    clear h1 hq hf hg hd TN TO
    rw [show ((18446744073709551615 : Nat) : Int) = 18446744073709551615 from rfl]
    have st := Bs.in2 W 25 [.string f.b0, .string f.b1, .int .i64 f.e0, .int .i64 f.e1, .int .i64 f.lim] 67 [.int .i64 0, .int .u64 (pg : Int), .int .u64 18446744073709551615, .int .u64 (px : Int)]
    go_enter Tryz.func37, Tryz.ntmps37
    have fc := And.intro (st.box 1 rfl).f5 (st.box 0 rfl).f4
    go_wp2
    clear fc
    go_ret2
    exact ⟨none, 0, rfl, none_ops _, ⟨by decide, by decide⟩, st.lo⟩
  · obtain ⟨m1, hq1⟩ := u64_nottop h1 hq
    have w1 := u64_next hq1
    rw [if_neg h1]
    clear h1 hq
    by_cases h2 : 0 < nx
    · rw [if_pos h2]
      have m2 : ((nx : Int) != 0) = true := bne_iff_ne.2 (by omega)
      have TA := Lib.hid (fun (V : World) => own11Append 0 (nx : Int) (pq + 1) d V (by omega) hd)
      clear h2 hd hf hg TO
      have st := Bs.in2 W 25 [.string f.b0, .string f.b1, .int .i64 f.e0, .int .i64 f.e1, .int .i64 f.lim] 67 [.int .i64 0, .int .u64 (pg : Int), .int .u64 (pq : Int), .int .u64 (px : Int)]
      go_enter Tryz.func37, Tryz.ntmps37
      have fc := And.intro (st.box 1 rfl).f5 (st.box 0 rfl).f4
      go_wp2_with fail; refine callB st (TN.out _) ?_; clear st fc; intro V1 st
      have fc := And.intro (st.box 1 rfl).f5 (st.box 0 rfl).f4
      go_wp2_with fail; refine (TA.out  _).mono ?_; rintro e V2 ⟨A, c, rfl, hA, hc, hk⟩
      clear fc
      replace st := st.seq hk
      clear hk
      have fc := And.intro (st.box 1 rfl).f5 (st.box 0 rfl).f4
      go_wp2
      clear fc
      go_ret2
      exact ⟨A, c, rfl, hA, hc, st.lo⟩
    · rw [if_neg h2]
      have h20 : nx = 0 := by omega
      subst h20
      rw [show ((0 : Nat) : Int) = 0 from rfl] at TN
      clear h2
      by_cases h3 : pg = topN
      · rw [if_pos h3]
        have m3 : pg = 18446744073709551615 := h3
        subst m3
        rw [show ((18446744073709551615 : Nat) : Int) = 18446744073709551615 from rfl]
        clear h3 hg hd hf TO
        have st := Bs.in2 W 25 [.string f.b0, .string f.b1, .int .i64 f.e0, .int .i64 f.e1, .int .i64 f.lim] 67 [.int .i64 0, .int .u64 18446744073709551615, .int .u64 (pq : Int), .int .u64 (px : Int)]
        go_enter Tryz.func37, Tryz.ntmps37
        have fc := And.intro (st.box 1 rfl).f5 (st.box 0 rfl).f4
        go_wp2_with fail; refine callB st (TN.out _) ?_; clear st fc; intro V1 st
        have fc := And.intro (st.box 1 rfl).f5 (st.box 0 rfl).f4
        go_wp2
        clear fc
        go_ret2
        exact ⟨none, 0, rfl, none_ops _, ⟨by decide, by decide⟩, st.lo⟩
      · obtain ⟨m3, hg1⟩ := u64_nottop h3 hg
        have w2 := u64_next hg1
        rw [if_neg h3]
        clear h3 hg
        have TR := Lib.hid (fun (V : World) => own11renew1 f (pg + 1) (pq + 1) d V hf (by omega) (by omega) hd)
        generalize rnw f 1 (pg + 1) (pq + 1) d = r at *
        clear hf hd
        have st := Bs.in2 W 25 [.string f.b0, .string f.b1, .int .i64 f.e0, .int .i64 f.e1, .int .i64 f.lim] 67 [.int .i64 0, .int .u64 (pg : Int), .int .u64 (pq : Int), .int .u64 (px : Int)]
        go_enter Tryz.func37, Tryz.ntmps37
        have fc := And.intro (st.box 1 rfl).f5 (st.box 0 rfl).f4
        go_wp2_with fail; refine callB st (TN.out _) ?_; clear st fc; intro V1 st
        have fc := And.intro (st.box 1 rfl).f5 (st.box 0 rfl).f4
        go_wp2_with fail
        clear fc
        replace st := st.drew
        refine rh (fun w => C5 w (W.heap.size) (.string f.b0) (.string f.b1) (.int .i64 f.e0) (.int .i64 f.e1) (.int .i64 f.lim) ∧ C4 w (W.heap.size + 1) (.int .i64 0) (.int .u64 (pg : Int)) (.int .u64 (pq : Int)) (.int .u64 (px : Int))) ⟨(st.box 1 rfl).c5, (st.box 0 rfl).c4⟩ fun hHeld => ?_
        generalize V1.drew = V2 at *
        refine tq 0 ?_; refine tq 1 ?_; refine tq 2 ?_; refine tq 4 ?_; refine tq 5 ?_; refine tq 6 ?_; refine tq 7 ?_; refine tq 8 ?_; refine tq 9 ?_; refine tq 10 ?_
        try simp only [Act.put, l1, l2, l3, l4, l5, l6]
        refine rd 3 fun K hK => ?_
        have fc := And.intro (st.box 1 rfl).f5 (st.box 0 rfl).f4
        go_simp
        refine callB st (TO.out _) ?_; clear st fc; intro V3 st
        have fc := And.intro (st.box 1 rfl).f5 (st.box 0 rfl).f4
        try go_wp2_with fail
        clear hHeld fc; refine hK.out _ _ ⟨(st.box 1 rfl).c5, (st.box 0 rfl).c4⟩ fun hHeld => ?_; clear hK K
        try simp only [Act.put, l1, l2, l3, l4, l5, l6]
        refine rd 11 fun K hK => ?_
        have fc := And.intro (st.box 1 rfl).f5 (st.box 0 rfl).f4
        go_simp
        refine (TR.out _).mono ?_
        rintro e V4 ⟨A, c, rfl, hA, hc, hk⟩
        clear fc
        replace st := st.seq hk
        clear hk
        have fc := And.intro (st.box 1 rfl).f5 (st.box 0 rfl).f4
        try go_wp2_with fail
        clear hHeld fc; refine hK.out _ _ ⟨(st.box 1 rfl).c5, (st.box 0 rfl).c4⟩ fun hHeld => ?_; clear hK K
        try simp only [Act.put, l1, l2, l3, l4, l5, l6]
        refine tq 12 ?_; refine tq 13 ?_; refine tq 14 ?_; refine tq 15 ?_
        try simp only [Act.put, l1, l2, l3, l4, l5, l6]
        refine wpAnyH_done (by kernel_rfl) ?_ _; clear hHeld
        have fc := And.intro (st.box 1 rfl).f5 (st.box 0 rfl).f4
        go_wp2
        clear fc
        go_ret2
        exact ⟨A, c, rfl, hA, hc, st.lo⟩

set_option maxRecDepth 100000 in
set_option maxHeartbeats 4000000 in
theorem own11goOn1 (f : Fl) (pg pq px d : Nat) (W : World) (hf : f.ok) (hg : pg < 18446744073709551616) (hq : pq < 18446744073709551616) (hd : d < 18446744073709551616) :
    Calls Tryz.prog 37 #[.agg #[.string f.b0, .string f.b1, .int .i64 f.e0, .int .i64 f.e1, .int .i64 f.lim], .agg #[.int .i64 1, .int .u64 (pg : Int), .int .u64 (pq : Int), .int .u64 (px : Int)], .int .u64 (d : Int)] W fun e W' => ∃ (A : Option Addr) (c : Nat), e = .returned (.tuple #[.slice A (if pq = topN then (([], 11) : List PwOp × Int) else if 0 < nextF f.b1 then (appL 1 (nextF f.b1 : Int) (pq + 1) d, 0) else if pg = topN then ([], 11) else rnw f 0 (pg + 1) (pq + 1) d).1.length c, .int .i64 (if pq = topN then (([], 11) : List PwOp × Int) else if 0 < nextF f.b1 then (appL 1 (nextF f.b1 : Int) (pq + 1) d, 0) else if pg = topN then ([], 11) else rnw f 0 (pg + 1) (pq + 1) d).2]) ∧ OpsAt W' A (if pq = topN then (([], 11) : List PwOp × Int) else if 0 < nextF f.b1 then (appL 1 (nextF f.b1 : Int) (pq + 1) d, 0) else if pg = topN then ([], 11) else rnw f 0 (pg + 1) (pq + 1) d).1 ∧ ((if pq = topN then (([], 11) : List PwOp × Int) else if 0 < nextF f.b1 then (appL 1 (nextF f.b1 : Int) (pq + 1) d, 0) else if pg = topN then ([], 11) else rnw f 0 (pg + 1) (pq + 1) d).1.length ≤ c ∧ c ≤ maxLen) ∧ Below W.heap.size W W' := by
  have TN := Lib.hid (fun (V : World) => own09Next f.b1 V hf.s1)
  have TO := Lib.hid (fun (V : World) => (show Gives Tryz.prog 59 #[.int .i64 1] V (.int .i64 0) from own10Other 1 V))
  generalize nextF f.b1 = nx at *
  by_cases h1 : pq = topN
  · rw [if_pos h1]
    have m1 : pq = 18446744073709551615 := h1
    subst m1
    clear h1 hq hf hg hd TN TO
    rw [show ((18446744073709551615 : Nat) : Int) = 18446744073709551615 from rfl]
    have st := Bs.in2 W 25 [.string f.b0, .string f.b1, .int .i64 f.e0, .int .i64 f.e1, .int .i64 f.lim] 67 [.int .i64 1, .int .u64 (pg : Int), .int .u64 18446744073709551615, .int .u64 (px : Int)]
    go_enter Tryz.func37, Tryz.ntmps37
    have fc := And.intro (st.box 1 rfl).f5 (st.box 0 rfl).f4
    go_wp2
    clear fc
    go_ret2
    exact ⟨none, 0, rfl, none_ops _, ⟨by decide, by decide⟩, st.lo⟩
  · obtain ⟨m1, hq1⟩ := u64_nottop h1 hq
    have w1 := u64_next hq1
    rw [if_neg h1]
    clear h1 hq
    by_cases h2 : 0 < nx
    · rw [if_pos h2]
      have m2 : ((nx : Int) != 0) = true := bne_iff_ne.2 (by omega)
      have TA := Lib.hid (fun (V : World) => own11Append 1 (nx : Int) (pq + 1) d V (by omega) hd)
      clear h2 hd hf hg TO
      have st := Bs.in2 W 25 [.string f.b0, .string f.b1, .int .i64 f.e0, .int .i64 f.e1, .int .i64 f.lim] 67 [.int .i64 1, .int .u64 (pg : Int), .int .u64 (pq : Int), .int .u64 (px : Int)]
      go_enter Tryz.func37, Tryz.ntmps37
      have fc := And.intro (st.box 1 rfl).f5 (st.box 0 rfl).f4
      go_wp2_with fail; refine callB st (TN.out _) ?_; clear st fc; intro V1 st
      have fc := And.intro (st.box 1 rfl).f5 (st.box 0 rfl).f4
      go_wp2_with fail; refine (TA.out  _).mono ?_; rintro e V2 ⟨A, c, rfl, hA, hc, hk⟩
      clear fc
      replace st := st.seq hk
      clear hk
      have fc := And.intro (st.box 1 rfl).f5 (st.box 0 rfl).f4
      go_wp2
      clear fc
      go_ret2
      exact ⟨A, c, rfl, hA, hc, st.lo⟩
    · rw [if_neg h2]
      have h20 : nx = 0 := by omega
      subst h20
      rw [show ((0 : Nat) : Int) = 0 from rfl] at TN
      clear h2
      by_cases h3 : pg = topN
      · rw [if_pos h3]
        have m3 : pg = 18446744073709551615 := h3
        subst m3
        rw [show ((18446744073709551615 : Nat) : Int) = 18446744073709551615 from rfl]
        clear h3 hg hd hf TO
        have st := Bs.in2 W 25 [.string f.b0, .string f.b1, .int .i64 f.e0, .int .i64 f.e1, .int .i64 f.lim] 67 [.int .i64 1, .int .u64 18446744073709551615, .int .u64 (pq : Int), .int .u64 (px : Int)]
        go_enter Tryz.func37, Tryz.ntmps37
        have fc := And.intro (st.box 1 rfl).f5 (st.box 0 rfl).f4
        go_wp2_with fail; refine callB st (TN.out _) ?_; clear st fc; intro V1 st
        have fc := And.intro (st.box 1 rfl).f5 (st.box 0 rfl).f4
        go_wp2
        clear fc
        go_ret2
        exact ⟨none, 0, rfl, none_ops _, ⟨by decide, by decide⟩, st.lo⟩
      · obtain ⟨m3, hg1⟩ := u64_nottop h3 hg
        have w2 := u64_next hg1
        rw [if_neg h3]
        clear h3 hg
        have TR := Lib.hid (fun (V : World) => own11renew0 f (pg + 1) (pq + 1) d V hf (by omega) (by omega) hd)
        generalize rnw f 0 (pg + 1) (pq + 1) d = r at *
        clear hf hd
        have st := Bs.in2 W 25 [.string f.b0, .string f.b1, .int .i64 f.e0, .int .i64 f.e1, .int .i64 f.lim] 67 [.int .i64 1, .int .u64 (pg : Int), .int .u64 (pq : Int), .int .u64 (px : Int)]
        go_enter Tryz.func37, Tryz.ntmps37
        have fc := And.intro (st.box 1 rfl).f5 (st.box 0 rfl).f4
        go_wp2_with fail; refine callB st (TN.out _) ?_; clear st fc; intro V1 st
        have fc := And.intro (st.box 1 rfl).f5 (st.box 0 rfl).f4
        go_wp2_with fail
        clear fc
        replace st := st.drew
        refine rh (fun w => C5 w (W.heap.size) (.string f.b0) (.string f.b1) (.int .i64 f.e0) (.int .i64 f.e1) (.int .i64 f.lim) ∧ C4 w (W.heap.size + 1) (.int .i64 1) (.int .u64 (pg : Int)) (.int .u64 (pq : Int)) (.int .u64 (px : Int))) ⟨(st.box 1 rfl).c5, (st.box 0 rfl).c4⟩ fun hHeld => ?_
        generalize V1.drew = V2 at *
        refine tq 0 ?_; refine tq 1 ?_; refine tq 2 ?_; refine tq 4 ?_; refine tq 5 ?_; refine tq 6 ?_; refine tq 7 ?_; refine tq 8 ?_; refine tq 9 ?_; refine tq 10 ?_
        try simp only [Act.put, l1, l2, l3, l4, l5, l6]
        refine rd 3 fun K hK => ?_
        have fc := And.intro (st.box 1 rfl).f5 (st.box 0 rfl).f4
        go_simp
        refine callB st (TO.out _) ?_; clear st fc; intro V3 st
        have fc := And.intro (st.box 1 rfl).f5 (st.box 0 rfl).f4
        try go_wp2_with fail
        clear hHeld fc; refine hK.out _ _ ⟨(st.box 1 rfl).c5, (st.box 0 rfl).c4⟩ fun hHeld => ?_; clear hK K
        try simp only [Act.put, l1, l2, l3, l4, l5, l6]
        refine rd 11 fun K hK => ?_
        have fc := And.intro (st.box 1 rfl).f5 (st.box 0 rfl).f4
        go_simp
        refine (TR.out _).mono ?_
        rintro e V4 ⟨A, c, rfl, hA, hc, hk⟩
        clear fc
        replace st := st.seq hk
        clear hk
        have fc := And.intro (st.box 1 rfl).f5 (st.box 0 rfl).f4
        try go_wp2_with fail
        clear hHeld fc; refine hK.out _ _ ⟨(st.box 1 rfl).c5, (st.box 0 rfl).c4⟩ fun hHeld => ?_; clear hK K
        try simp only [Act.put, l1, l2, l3, l4, l5, l6]
        refine tq 12 ?_; refine tq 13 ?_; refine tq 14 ?_; refine tq 15 ?_
        try simp only [Act.put, l1, l2, l3, l4, l5, l6]
        refine wpAnyH_done (by kernel_rfl) ?_ _; clear hHeld
        have fc := And.intro (st.box 1 rfl).f5 (st.box 0 rfl).f4
        go_wp2
        clear fc
        go_ret2
        exact ⟨A, c, rfl, hA, hc, st.lo⟩

set_option maxRecDepth 100000 in
set_option maxHeartbeats 4000000 in
theorem own11Plan (f : Fl) (d : Nat) (W : World) (hf : f.ok) (hd : d < 18446744073709551616) :
    Calls Tryz.prog 22 #[.agg #[.string f.b0, .string f.b1, .int .i64 f.e0, .int .i64 f.e1, .int .i64 f.lim], .int .u64 (d : Int)] W fun e W' => ∃ (A : Option Addr) (c : Nat), e = .returned (.tuple #[.slice A (planR f d).1.length c, .int .i64 (planR f d).2]) ∧ OpsAt W' A (planR f d).1 ∧ ((planR f d).1.length ≤ c ∧ c ≤ maxLen) ∧ Below W.heap.size W W' := by
  have TE := Lib.hid (fun (V : World) => own10Even f V hf)
  have TR := Lib.hid (fun (V : World) => own10Read f V hf)
  by_cases hE : evenF f = false
  · have HP : planR f d = ([], 1) := if_pos hE
    rw [HP]
    rw [hE] at TE
    clear HP hE hf hd TR
    have st := Bs.in1 W 25 [.string f.b0, .string f.b1, .int .i64 f.e0, .int .i64 f.e1, .int .i64 f.lim]
    go_enter Tryz.func22, Tryz.ntmps22
    have fc := (st.box 0 rfl).f5
    go_wp2_with fail; refine callB st (TE.out _) ?_; clear st fc; intro V1 st
    have fc := (st.box 0 rfl).f5
    go_wp2
    clear fc
    go_ret2
    exact ⟨none, 0, rfl, none_ops _, ⟨by decide, by decide⟩, st.lo⟩
  · have hE2 : evenF f = true := by cases h : evenF f with
      | false => exact absurd h hE
      | true => rfl
    rw [hE2] at TE
    by_cases hb : bankK f < 0
    · have he : pickE f = 10 := if_pos hb
      rw [he, pickS_none hb] at TR
      dsimp only at TR
      have TB := Lib.hid (fun (V : World) => own11begin f d V hf hd)
      have HP : planR f d = (if f.e0 < f.lim then rnw f 0 1 1 d else rnw f 1 1 1 d) := by
        unfold planR rnw
        rw [if_neg hE, if_pos hb]
        by_cases h0 : f.e0 < f.lim
        · rw [if_pos h0, if_pos h0, if_neg (show ¬ f.lim ≤ f.erases 0 from by show ¬ f.lim ≤ f.e0; omega)]
        · rw [if_neg h0, if_neg h0]
          by_cases h1 : f.e1 < f.lim
          · rw [if_pos h1, if_neg (show ¬ f.lim ≤ f.erases 1 from by show ¬ f.lim ≤ f.e1; omega)]
          · rw [if_neg h1, if_pos (show f.lim ≤ f.erases 1 from by show f.lim ≤ f.e1; omega)]
      rw [HP]
      generalize (if f.e0 < f.lim then rnw f 0 1 1 d else rnw f 1 1 1 d) = r at *
      clear HP hE hb he hE2 hf hd
      have st := Bs.in1 W 25 [.string f.b0, .string f.b1, .int .i64 f.e0, .int .i64 f.e1, .int .i64 f.lim]
      go_enter Tryz.func22, Tryz.ntmps22
      have fc := (st.box 0 rfl).f5
      go_wp2_with fail; refine callB st (TE.out _) ?_; clear st fc; intro V1 st
      have fc := (st.box 0 rfl).f5
      go_wp2_with fail; refine callB st (TR.out _) ?_; clear st fc; intro V2 st
      have fc := (st.box 0 rfl).f5
      replace st := st.alloc 67 [.int .i64 0, .int .u64 0, .int .u64 0, .int .u64 0]
      replace fc := And.intro (st.box 1 rfl).f5 (st.box 0 rfl).f4
      go_wp2_with fail; refine (TB.out  _).mono ?_; rintro e V3 ⟨A, c, rfl, hA, hc, hk⟩
      clear fc
      replace st := st.seq hk
      clear hk
      have fc := And.intro (st.box 1 rfl).f5 (st.box 0 rfl).f4
      go_wp2
      clear fc
      go_ret2
      exact ⟨A, c, rfl, hA, hc, st.lo⟩
    · have he : pickE f = 0 := if_neg hb
      rw [he] at TR
      have hq := pickS_seq_lt f
      have hg : (pickS f).gen < 18446744073709551616 := by rw [pickS_some (by have := bankK_cases f; omega)]; exact genN_lt _
      have hpb : (pickS f).bank = bankK f := by rw [pickS_some (by have := bankK_cases f; omega)]
      have HPL : planR f d = if (pickS f).seq = topN then ([], 11) else if 0 < nextF (f.bank (bankK f)) then (appL (bankK f) (nextF (f.bank (bankK f)) : Int) ((pickS f).seq + 1) d, 0) else if (pickS f).gen = topN then ([], 11) else rnw f (otherN (bankK f)) ((pickS f).gen + 1) ((pickS f).seq + 1) d := by unfold planR rnw; rw [if_neg hE, if_neg hb]
      clear he hE hE2
      have hk := bankK_cases f
      generalize bankK f = k at *
      generalize pickS f = p at *
      obtain ⟨pb, pg, pq, px⟩ := p
      dsimp only at *
      subst hpb
      rcases (show pb = 0 ∨ pb = 1 from by omega) with rfl | rfl
      · rw [show otherN 0 = 1 from rfl, show f.bank 0 = f.b0 from rfl] at HPL
        rw [HPL]
        have TG := Lib.hid (fun (V : World) => own11goOn0 f pg pq px d V hf hg hq hd)
        generalize (if pq = topN then (([], 11) : List PwOp × Int) else if 0 < nextF f.b0 then (appL 0 (nextF f.b0 : Int) (pq + 1) d, 0) else if pg = topN then ([], 11) else rnw f 1 (pg + 1) (pq + 1) d) = r at *
        clear HPL hb hk hf hg hq hd
        have st := Bs.in1 W 25 [.string f.b0, .string f.b1, .int .i64 f.e0, .int .i64 f.e1, .int .i64 f.lim]
        go_enter Tryz.func22, Tryz.ntmps22
        have fc := (st.box 0 rfl).f5
        go_wp2_with fail; refine callB st (TE.out _) ?_; clear st fc; intro V1 st
        have fc := (st.box 0 rfl).f5
        go_wp2_with fail; refine callB st (TR.out _) ?_; clear st fc; intro V2 st
        have fc := (st.box 0 rfl).f5
        replace st := st.alloc 67 [.int .i64 0, .int .u64 (pg : Int), .int .u64 (pq : Int), .int .u64 (px : Int)]
        replace fc := And.intro (st.box 1 rfl).f5 (st.box 0 rfl).f4
        go_wp2_with fail; refine (TG.out  _).mono ?_; rintro e V3 ⟨A, c, rfl, hA, hc, hk⟩
        clear fc
        replace st := st.seq hk
        clear hk
        have fc := And.intro (st.box 1 rfl).f5 (st.box 0 rfl).f4
        go_wp2
        clear fc
        go_ret2
        exact ⟨A, c, rfl, hA, hc, st.lo⟩
      · rw [show otherN 1 = 0 from rfl, show f.bank 1 = f.b1 from rfl] at HPL
        rw [HPL]
        have TG := Lib.hid (fun (V : World) => own11goOn1 f pg pq px d V hf hg hq hd)
        generalize (if pq = topN then (([], 11) : List PwOp × Int) else if 0 < nextF f.b1 then (appL 1 (nextF f.b1 : Int) (pq + 1) d, 0) else if pg = topN then ([], 11) else rnw f 0 (pg + 1) (pq + 1) d) = r at *
        clear HPL hb hk hf hg hq hd
        have st := Bs.in1 W 25 [.string f.b0, .string f.b1, .int .i64 f.e0, .int .i64 f.e1, .int .i64 f.lim]
        go_enter Tryz.func22, Tryz.ntmps22
        have fc := (st.box 0 rfl).f5
        go_wp2_with fail; refine callB st (TE.out _) ?_; clear st fc; intro V1 st
        have fc := (st.box 0 rfl).f5
        go_wp2_with fail; refine callB st (TR.out _) ?_; clear st fc; intro V2 st
        have fc := (st.box 0 rfl).f5
        replace st := st.alloc 67 [.int .i64 1, .int .u64 (pg : Int), .int .u64 (pq : Int), .int .u64 (px : Int)]
        replace fc := And.intro (st.box 1 rfl).f5 (st.box 0 rfl).f4
        go_wp2_with fail; refine (TG.out  _).mono ?_; rintro e V3 ⟨A, c, rfl, hA, hc, hk⟩
        clear fc
        replace st := st.seq hk
        clear hk
        have fc := And.intro (st.box 1 rfl).f5 (st.box 0 rfl).f4
        go_wp2
        clear fc
        go_ret2
        exact ⟨A, c, rfl, hA, hc, st.lo⟩

end Go.Proofs.YthmpjoiifglbjaaGreat

/- How the model compares, within structs that are nested, arrays of two texts, or of two numbers: no statement is proved here. -/
import Derived.Test.YthmpjoiifglbjaaGreatJourRefB
import Derived.Test.YthmpjoiifglbjaaGreatJourFit
import Derived.Test.YthmpjoiifglbjaaGreatJourOpen
import Derived.WalkKit
import Derived.ProofKit
import Derived.Lib.Hide
import Derived.Deep.RegionHeld3
import Derived.WalkLawsBesides
import Derived.WalkSpells
import Derived.IntWalk
import Derived.Test.YthmpjoiifglbjaaGreatRows
import Derived.Laws.StructEq
namespace Go.Proofs.YthmpjoiifglbjaaGreat
open Go.RowKit
set_option linter.unusedVariables false
set_option linter.unusedSimpArgs false

set_option maxRecDepth 100000 in
set_option maxHeartbeats 8000000 in
theorem ref12Run (f : Fl) (l : List Stp) (A : Option Addr) (c : Nat) (W : World) (hf : f.fit) (hl : RowsAt 3 stpV W A l) (ho : ∀ o ∈ l, o.ok) (hc : l.length ≤ c ∧ c ≤ maxLen) :
    Gives Tryz.prog 13 #[.agg #[.string f.b0, .string f.b1, .int .i64 f.e0, .int .i64 f.e1, .int .i64 f.lim], .slice A l.length c] W (.agg #[.string (runJ (startJ f) l).f.b0, .string (runJ (startJ f) l).f.b1, .int .i64 (runJ (startJ f) l).f.e0, .int .i64 (runJ (startJ f) l).f.e1, .int .i64 (runJ (startJ f) l).f.lim, .int .i64 (runJ (startJ f) l).acked, .int .u64 ((runJ (startJ f) l).last : Int), .bool (runJ (startJ f) l).flying, .int .u64 ((runJ (startJ f) l).flight : Int)]) := by
  have hc2 := hc.2
  unfold maxLen at hc2
  have HL := Lib.hid (fun k o hk => hl.hop k o hk)
  have HF := Lib.hid (fun (j : Nat) => (show (runJ (startJ f) (l.take j)).f.fit ∧ 0 ≤ (runJ (startJ f) (l.take j)).acked ∧ (runJ (startJ f) (l.take j)).acked ≤ (j : Int) from by
    have h := runJ_acked (l.take j) (startJ f)
    have h2 : ((l.take j).length : Int) ≤ (j : Int) := by have := List.length_take_le j l; omega
    have h3 : (startJ f).acked = 0 := rfl
    exact ⟨runJ_fit _ _ hf, by omega, by omega⟩))
  have HN := Lib.hid (fun (j : Nat) (o : Stp) (h : l[j]? = some o) => runJ_take h (startJ f))
  have H0 := Lib.hid (show runJ (startJ f) (l.take 0) = ⟨f, 0, 0, false, 0⟩ from by rw [List.take_zero]; rfl)
  have HE := Lib.hid (show runJ (startJ f) (l.take l.length) = runJ (startJ f) l from by rw [List.take_length])
  obtain ⟨r, hr⟩ : ∃ r, runJ (startJ f) l = r := ⟨_, rfl⟩
  rw [hr] at HE ⊢
  clear hr hl hf
  generalize startJ f = S0 at *
  have hlen : (l.length : Int) ≤ 9223372036854775807 := by omega
  replace hc := Lib.hid hc
  clear hc2
  have st := Bs.in3 W 35 [.string f.b0, .string f.b1, .int .i64 f.e0, .int .i64 f.e1, .int .i64 f.lim] 46 [.string ⟨#[]⟩, .string ⟨#[]⟩, .int .i64 0, .int .i64 0, .int .i64 0, .int .i64 0, .int .u64 0, .bool false, .int .u64 0] 46 [.string f.b0, .string f.b1, .int .i64 f.e0, .int .i64 f.e1, .int .i64 f.lim, .int .i64 0, .int .u64 0, .bool false, .int .u64 0]
  go_enter Tryz.func13, Tryz.ntmps13
  have fc0 := (st.box 2 rfl).f5; have fc1 := (st.box 1 rfl).f9; have fc2 := (st.box 0 rfl).f9
  go_wp2
  clear fc0 fc1 fc2
  go_loopw [6] (fun i w => ∃ (j : Nat) (x : Lg), j ≤ l.length ∧ i = .int .i64 j ∧ runJ S0 (l.take j) = x ∧ Bs W w [(46, W.heap.size + 1 + 1, [.string x.f.b0, .string x.f.b1, .int .i64 x.f.e0, .int .i64 x.f.e1, .int .i64 x.f.lim, .int .i64 x.acked, .int .u64 (x.last : Int), .bool x.flying, .int .u64 (x.flight : Int)]), (46, W.heap.size + 1, [.string ⟨#[]⟩, .string ⟨#[]⟩, .int .i64 0, .int .i64 0, .int .i64 0, .int .i64 0, .int .u64 0, .bool false, .int .u64 0]), (35, W.heap.size, [.string f.b0, .string f.b1, .int .i64 f.e0, .int .i64 f.e1, .int .i64 f.lim])]) (fun i _ => l.length - (intOf i).toNat)
  case atStart => exact ⟨0, ⟨f, 0, 0, false, 0⟩, Nat.zero_le _, rfl, H0.out, st⟩
  case round =>
    clear st; obtain ⟨j, x, hj, rfl, hx, st⟩ := hrel
    by_cases hlt : j < l.length
    · obtain ⟨s, hjs⟩ : ∃ s, l[j]? = some s := ⟨_, List.getElem?_eq_getElem hlt⟩
      obtain ⟨g, off, rfl, HC0⟩ := HL.out j s hjs
      have HC := Lib.hid (show ∀ V : World, Below W.heap.size W V → V.cell? ⟨g, off + j * 3, none⟩ = some (.int .u64 (s.data : Int)) ∧ V.cell? ⟨g, off + j * 3 + 1, none⟩ = some (.int .i64 s.cut) ∧ V.cell? ⟨g, off + j * 3 + 2, none⟩ = some (.string s.mask) from fun V h => ⟨HC0 V h 0 (by decide), HC0 V h 1 (by decide), HC0 V h 2 (by decide)⟩)
      clear HC0
      have hs := ho s (List.mem_of_getElem? hjs)
      obtain ⟨h1, h2, h3⟩ := HF.out j
      have hn := HN.out j s hjs
      rw [hx] at h1 h2 h3 hn
      obtain ⟨yf, ya, yl, yb, yt, hy⟩ : ∃ yf ya yl yb yt, playJ x s = ⟨yf, ya, yl, yb, yt⟩ := ⟨_, _, _, _, _, rfl⟩
      rw [hy] at hn
      replace hn := Lib.hid hn
      have hxa : -9223372036854775808 ≤ x.acked ∧ x.acked < 9223372036854775807 := by omega
      have TP := Lib.hid (fun (V : World) => (show Gives Tryz.prog 29 #[.agg #[.string x.f.b0, .string x.f.b1, .int .i64 x.f.e0, .int .i64 x.f.e1, .int .i64 x.f.lim, .int .i64 x.acked, .int .u64 (x.last : Int), .bool x.flying, .int .u64 (x.flight : Int)], .agg #[.int .u64 (s.data : Int), .int .i64 s.cut, .string s.mask]] V (.agg #[.string yf.b0, .string yf.b1, .int .i64 yf.e0, .int .i64 yf.e1, .int .i64 yf.lim, .int .i64 ya, .int .u64 (yl : Int), .bool yb, .int .u64 (yt : Int)]) from by have h := ref12Play x s V h1 hxa hs; rw [hy] at h; exact h))
      have j0 : (0 : Int) ≤ (j : Int) := by omega
      have j1 : (j : Int) < (l.length : Int) := by omega
      have j2 : IntKind.i64.wrap ((j : Int) + 1) = (j : Int) + 1 := IntWalk.i64_in _ (by omega)
      clear hy hs hjs HL HN HF HE H0 hx h1 h2 h3 hxa ho
      go_wp2_with fail
      replace st := st.drew
      refine rh (fun w => w.cell? ⟨g, off + j * 3, none⟩ = some (.int .u64 (s.data : Int)) ∧ w.cell? ⟨g, off + j * 3 + 1, none⟩ = some (.int .i64 s.cut) ∧ w.cell? ⟨g, off + j * 3 + 2, none⟩ = some (.string s.mask)) ⟨(HC.out _ st.lo).1, (HC.out _ st.lo).2.1, (HC.out _ st.lo).2.2⟩ fun hHeld => ?_
      generalize wr.drew = V1 at *
      refine tq 1 ?_; refine tq 2 ?_; refine tq 3 ?_; refine tq 4 ?_
      try simp only [Act.put, l1, l2, l3, l4, l5, l6]
      refine rd 0 fun K hK => ?_
      have fc0 := (st.box 1 rfl).f9; have fc1 := (st.box 0 rfl).f9
      go_simp
      try go_wp2_with fail
      clear hHeld fc0 fc1; refine hK.out _ _ ⟨(HC.out _ st.lo).1, (HC.out _ st.lo).2.1, (HC.out _ st.lo).2.2⟩ fun hHeld => ?_; clear hK K
      try simp only [Act.put, l1, l2, l3, l4, l5, l6]
      refine rd 5 fun K hK => ?_
      have fc0 := (st.box 1 rfl).f9; have fc1 := (st.box 0 rfl).f9
      go_simp
      refine callB st (TP.out _) ?_; clear st fc0 fc1; intro V2 st
      have fc0 := (st.box 1 rfl).f9; have fc1 := (st.box 0 rfl).f9
      try go_wp2_with fail
      clear hHeld fc0 fc1; refine hK.out _ _ ⟨(HC.out _ st.lo).1, (HC.out _ st.lo).2.1, (HC.out _ st.lo).2.2⟩ fun hHeld => ?_; clear hK K
      try simp only [Act.put, l1, l2, l3, l4, l5, l6]
      refine rd 6 fun K hK => ?_
      have fc0 := (st.box 1 rfl).f9; have fc1 := (st.box 0 rfl).f9
      go_simp
      try go_wp2_with fail
      clear fc0 fc1
      replace st := st.put9 0 (.string yf.b0) (.string yf.b1) (.int .i64 yf.e0) (.int .i64 yf.e1) (.int .i64 yf.lim) (.int .i64 ya) (.int .u64 (yl : Int)) (.bool yb) (.int .u64 (yt : Int)) rfl; obtain ⟨V3, hV, st⟩ := st; rw [hV]; clear hV
      clear hHeld; refine hK.out _ _ ⟨(HC.out _ st.lo).1, (HC.out _ st.lo).2.1, (HC.out _ st.lo).2.2⟩ fun hHeld => ?_; clear hK K
      try simp only [Act.put, l1, l2, l3, l4, l5, l6]
      refine wpAnyH_done (by kernel_rfl) ?_ _; clear hHeld
      have fc0 := (st.box 1 rfl).f9; have fc1 := (st.box 0 rfl).f9
      go_wp2
      clear fc0 fc1
      go_roundw
      case rel => exact ⟨j + 1, (Lg.mk yf ya yl yb yt), by omega, by go_num, hn.out, st⟩
      case measure => simp [intOf]; omega
    · obtain rfl : j = l.length := by omega
      obtain rfl : x = r := hx.symm.trans HE.out
      clear HL HN HF HE H0 hx ho
      have fc0 := (st.box 1 rfl).f9; have fc1 := (st.box 0 rfl).f9
      go_wp2
      clear fc0 fc1
      replace st := st.put9 1 (.string x.f.b0) (.string x.f.b1) (.int .i64 x.f.e0) (.int .i64 x.f.e1) (.int .i64 x.f.lim) (.int .i64 x.acked) (.int .u64 (x.last : Int)) (.bool x.flying) (.int .u64 (x.flight : Int)) rfl; obtain ⟨V1, hV, st⟩ := st; rw [hV]; clear hV
      have fc0 := (st.box 1 rfl).f9; have fc1 := (st.box 0 rfl).f9
      exact bodyPost_ret (v := .agg #[.string x.f.b0, .string x.f.b1, .int .i64 x.f.e0, .int .i64 x.f.e1, .int .i64 x.f.lim, .int .i64 x.acked, .int .u64 (x.last : Int), .bool x.flying, .int .u64 (x.flight : Int)]) (by simp [results, Tryz.results13, go_sem, fc0, fc1]) rfl ⟨rfl, st.lo⟩

end Go.Proofs.YthmpjoiifglbjaaGreat
namespace Go.Proofs.YthmpjoiifglbjaaGreat
open Go.RowKit
set_option linter.unusedVariables false
theorem eqS2 (a b c d : ByteArray) (w : World) : (Op.equalIn 9999 22 (.agg #[.string a, .string b]) (.agg #[.string c, .string d])).run Tryz.prog w = .ok (a.toList == c.toList && b.toList == d.toList) w := by
  have u3 := Tryz.underlying9
  have a3 := Tryz.isAgg9
  have z3 := Tryz.sizeOf9
  rw [show (9999 : Nat) = 9998 + 1 from rfl, Op.equalIn]
  simp only [Sem.run_bind, run_underlying Tryz.underlying22, Result.andThen_ok]
  simp only [Std.Legacy.Range.forIn_eq_forIn_range', Std.Legacy.Range.size, Nat.sub_zero, Nat.add_sub_cancel, Nat.div_one, List.range'_succ, List.range'_zero, List.forIn_cons, List.forIn_nil]
  go_simp
  by_cases h1 : a.toList = c.toList <;> by_cases h2 : b.toList = d.toList <;> simp [h1, h2]
theorem eqI2 (a b c d : Int) (w : World) : (Op.equalIn 9999 23 (.agg #[.int .i64 a, .int .i64 b]) (.agg #[.int .i64 c, .int .i64 d])).run Tryz.prog w = .ok (a == c && b == d) w := by
  have u3 := Tryz.underlying3
  have a3 := Tryz.isAgg3
  have z3 := Tryz.sizeOf3
  rw [show (9999 : Nat) = 9998 + 1 from rfl, Op.equalIn]
  simp only [Sem.run_bind, run_underlying Tryz.underlying23, Result.andThen_ok]
  simp only [Std.Legacy.Range.forIn_eq_forIn_range', Std.Legacy.Range.size, Nat.sub_zero, Nat.add_sub_cancel, Nat.div_one, List.range'_succ, List.range'_zero, List.forIn_cons, List.forIn_nil]
  go_simp
  by_cases h1 : a = c <;> by_cases h2 : b = d <;> simp [h1, h2]
/-- The same, compared alone. -/
theorem eqS2t (a b c d : ByteArray) (w : World) : (Op.equalIn 10000 22 (.agg #[.string a, .string b]) (.agg #[.string c, .string d])).run Tryz.prog w = .ok (a.toList == c.toList && b.toList == d.toList) w := by
  have u3 := Tryz.underlying9
  have a3 := Tryz.isAgg9
  have z3 := Tryz.sizeOf9
  rw [show (10000 : Nat) = 9999 + 1 from rfl, Op.equalIn]
  simp only [Sem.run_bind, run_underlying Tryz.underlying22, Result.andThen_ok]
  simp only [Std.Legacy.Range.forIn_eq_forIn_range', Std.Legacy.Range.size, Nat.sub_zero, Nat.add_sub_cancel, Nat.div_one, List.range'_succ, List.range'_zero, List.forIn_cons, List.forIn_nil]
  go_simp
  by_cases h1 : a.toList = c.toList <;> by_cases h2 : b.toList = d.toList <;> simp [h1, h2]
theorem eqI2t (a b c d : Int) (w : World) : (Op.equalIn 10000 23 (.agg #[.int .i64 a, .int .i64 b]) (.agg #[.int .i64 c, .int .i64 d])).run Tryz.prog w = .ok (a == c && b == d) w := by
  have u3 := Tryz.underlying3
  have a3 := Tryz.isAgg3
  have z3 := Tryz.sizeOf3
  rw [show (10000 : Nat) = 9999 + 1 from rfl, Op.equalIn]
  simp only [Sem.run_bind, run_underlying Tryz.underlying23, Result.andThen_ok]
  simp only [Std.Legacy.Range.forIn_eq_forIn_range', Std.Legacy.Range.size, Nat.sub_zero, Nat.add_sub_cancel, Nat.div_one, List.range'_succ, List.range'_zero, List.forIn_cons, List.forIn_nil]
  go_simp
  by_cases h1 : a = c <;> by_cases h2 : b = d <;> simp [h1, h2]
end Go.Proofs.YthmpjoiifglbjaaGreat
namespace Go.Proofs.YthmpjoiifglbjaaGreat
open Go.RowKit
set_option linter.unusedVariables false
theorem eqS2u (a b c d : ByteArray) (w : World) : (Op.equalIn 9998 22 (.agg #[.string a, .string b]) (.agg #[.string c, .string d])).run Tryz.prog w = .ok (a.toList == c.toList && b.toList == d.toList) w := by
  have u3 := Tryz.underlying9
  have a3 := Tryz.isAgg9
  have z3 := Tryz.sizeOf9
  rw [show (9998 : Nat) = 9997 + 1 from rfl, Op.equalIn]
  simp only [Sem.run_bind, run_underlying Tryz.underlying22, Result.andThen_ok]
  simp only [Std.Legacy.Range.forIn_eq_forIn_range', Std.Legacy.Range.size, Nat.sub_zero, Nat.add_sub_cancel, Nat.div_one, List.range'_succ, List.range'_zero, List.forIn_cons, List.forIn_nil]
  go_simp
  by_cases h1 : a.toList = c.toList <;> by_cases h2 : b.toList = d.toList <;> simp [h1, h2]
theorem eqI2u (a b c d : Int) (w : World) : (Op.equalIn 9998 23 (.agg #[.int .i64 a, .int .i64 b]) (.agg #[.int .i64 c, .int .i64 d])).run Tryz.prog w = .ok (a == c && b == d) w := by
  have u3 := Tryz.underlying3
  have a3 := Tryz.isAgg3
  have z3 := Tryz.sizeOf3
  rw [show (9998 : Nat) = 9997 + 1 from rfl, Op.equalIn]
  simp only [Sem.run_bind, run_underlying Tryz.underlying23, Result.andThen_ok]
  simp only [Std.Legacy.Range.forIn_eq_forIn_range', Std.Legacy.Range.size, Nat.sub_zero, Nat.add_sub_cancel, Nat.div_one, List.range'_succ, List.range'_zero, List.forIn_cons, List.forIn_nil]
  go_simp
  by_cases h1 : a = c <;> by_cases h2 : b = d <;> simp [h1, h2]
theorem eqS2v (a b c d : ByteArray) (w : World) : (Op.equalIn 9997 22 (.agg #[.string a, .string b]) (.agg #[.string c, .string d])).run Tryz.prog w = .ok (a.toList == c.toList && b.toList == d.toList) w := by
  have u3 := Tryz.underlying9
  have a3 := Tryz.isAgg9
  have z3 := Tryz.sizeOf9
  rw [show (9997 : Nat) = 9996 + 1 from rfl, Op.equalIn]
  simp only [Sem.run_bind, run_underlying Tryz.underlying22, Result.andThen_ok]
  simp only [Std.Legacy.Range.forIn_eq_forIn_range', Std.Legacy.Range.size, Nat.sub_zero, Nat.add_sub_cancel, Nat.div_one, List.range'_succ, List.range'_zero, List.forIn_cons, List.forIn_nil]
  go_simp
  by_cases h1 : a.toList = c.toList <;> by_cases h2 : b.toList = d.toList <;> simp [h1, h2]
theorem eqI2v (a b c d : Int) (w : World) : (Op.equalIn 9997 23 (.agg #[.int .i64 a, .int .i64 b]) (.agg #[.int .i64 c, .int .i64 d])).run Tryz.prog w = .ok (a == c && b == d) w := by
  have u3 := Tryz.underlying3
  have a3 := Tryz.isAgg3
  have z3 := Tryz.sizeOf3
  rw [show (9997 : Nat) = 9996 + 1 from rfl, Op.equalIn]
  simp only [Sem.run_bind, run_underlying Tryz.underlying23, Result.andThen_ok]
  simp only [Std.Legacy.Range.forIn_eq_forIn_range', Std.Legacy.Range.size, Nat.sub_zero, Nat.add_sub_cancel, Nat.div_one, List.range'_succ, List.range'_zero, List.forIn_cons, List.forIn_nil]
  go_simp
  by_cases h1 : a = c <;> by_cases h2 : b = d <;> simp [h1, h2]
end Go.Proofs.YthmpjoiifglbjaaGreat

/- The program's own functions of layer 4: contracts only. -/
import Derived.Test.YthmpjoiifglbjaaGreatRows
import Derived.Test.YthmpjoiifglbjaaGreatPlanOps
import Derived.Test.YthmpjoiifglbjaaGreatPowerOps
import Derived.Test.YthmpjoiifglbjaaGreatClear
import Derived.Test.YthmpjoiifglbjaaGreatBs
import Derived.Test.YthmpjoiifglbjaaGreatInts
import Derived.WalkKit
import Derived.ProofKit
import Derived.OwnWalk
import Derived.Lib.Hide
import Derived.BigQuiet
import Derived.Deep.QuietTactic
import Derived.Deep.RegionHeld3
import Derived.IntWalk
import Derived.WalkLawsBesides
namespace Go.Proofs.YthmpjoiifglbjaaGreat
open Go.RowKit
set_option linter.unusedVariables false
set_option linter.unusedSimpArgs false

set_option maxRecDepth 100000 in
set_option maxHeartbeats 4000000 in
theorem pwDo1 (f : Fl) (b q : Int) (d : ByteArray) (W : World) (hf : f.fit) (hd : d.size ≤ maxLen) (hq : q ≤ 9223372036854775807) :
    Gives Tryz.prog 38 #[.agg #[.string f.b0, .string f.b1, .int .i64 f.e0, .int .i64 f.e1, .int .i64 f.lim], .agg #[.int .i64 1, .int .i64 b, .int .i64 q, .string d]] W (.tuple #[.agg #[.string (progF f b q d).b0, .string (progF f b q d).b1, .int .i64 (progF f b q d).e0, .int .i64 (progF f b q d).e1, .int .i64 (progF f b q d).lim], .int .i64 (progErr f b q d)]) := by
  have T := Lib.hid (fun (W : World) => flProgram f b q d W hf hd (by omega))
  generalize progF f b q d = g at *
  generalize progErr f b q d = E at *
  have st := Bs.in3 W 25 [.string f.b0, .string f.b1, .int .i64 f.e0, .int .i64 f.e1, .int .i64 f.lim] 95 [.int .i64 1, .int .i64 b, .int .i64 q, .string d] 25 [.string ⟨#[]⟩, .string ⟨#[]⟩, .int .i64 0, .int .i64 0, .int .i64 0]
  go_enter Tryz.func38, Tryz.ntmps38
  go_wp2_with fail; refine callB st (T.out _) ?_; clear st; intro V1 st
  have fc := And.intro (st.box 2 rfl).f5 (And.intro (st.box 1 rfl).f4 (st.box 0 rfl).f5)
  go_wp2
  clear fc
  replace st := st.put5 0 (.string g.b0) (.string g.b1) (.int .i64 g.e0) (.int .i64 g.e1) (.int .i64 g.lim) rfl; obtain ⟨V2, hV, st⟩ := st; rw [hV]; clear hV
  have fc := And.intro (st.box 2 rfl).f5 (And.intro (st.box 1 rfl).f4 (st.box 0 rfl).f5)
  exact bodyPost_ret (v := .tuple #[.agg #[.string g.b0, .string g.b1, .int .i64 g.e0, .int .i64 g.e1, .int .i64 g.lim], .int .i64 E]) (by simp [results, Tryz.results38, go_sem, fc]) rfl ⟨rfl, st.lo⟩

set_option maxRecDepth 100000 in
set_option maxHeartbeats 4000000 in
theorem pwDo2 (f : Fl) (b q : Int) (d : ByteArray) (W : World) (hf : f.fit) (hd : d.size ≤ maxLen) (hq : q ≤ 9223372036854775807) :
    Gives Tryz.prog 38 #[.agg #[.string f.b0, .string f.b1, .int .i64 f.e0, .int .i64 f.e1, .int .i64 f.lim], .agg #[.int .i64 2, .int .i64 b, .int .i64 q, .string d]] W (.tuple #[.agg #[.string (eraseF f b).b0, .string (eraseF f b).b1, .int .i64 (eraseF f b).e0, .int .i64 (eraseF f b).e1, .int .i64 (eraseF f b).lim], .int .i64 (eraseErr f b)]) := by
  have T := Lib.hid (fun (W : World) => flErase f b W hf)
  generalize eraseF f b = g at *
  generalize eraseErr f b = E at *
  have st := Bs.in3 W 25 [.string f.b0, .string f.b1, .int .i64 f.e0, .int .i64 f.e1, .int .i64 f.lim] 95 [.int .i64 2, .int .i64 b, .int .i64 q, .string d] 25 [.string ⟨#[]⟩, .string ⟨#[]⟩, .int .i64 0, .int .i64 0, .int .i64 0]
  go_enter Tryz.func38, Tryz.ntmps38
  go_wp2_with fail; refine callB st (T.out _) ?_; clear st; intro V1 st
  have fc := And.intro (st.box 2 rfl).f5 (And.intro (st.box 1 rfl).f4 (st.box 0 rfl).f5)
  go_wp2
  clear fc
  replace st := st.put5 0 (.string g.b0) (.string g.b1) (.int .i64 g.e0) (.int .i64 g.e1) (.int .i64 g.lim) rfl; obtain ⟨V2, hV, st⟩ := st; rw [hV]; clear hV
  have fc := And.intro (st.box 2 rfl).f5 (And.intro (st.box 1 rfl).f4 (st.box 0 rfl).f5)
  exact bodyPost_ret (v := .tuple #[.agg #[.string g.b0, .string g.b1, .int .i64 g.e0, .int .i64 g.e1, .int .i64 g.lim], .int .i64 E]) (by simp [results, Tryz.results38, go_sem, fc]) rfl ⟨rfl, st.lo⟩

set_option maxRecDepth 100000 in
set_option maxHeartbeats 4000000 in
theorem pwDo0 (f : Fl) (k b q : Int) (d : ByteArray) (W : World) (h1 : k ≠ 1) (h2 : k ≠ 2) :
    Gives Tryz.prog 38 #[.agg #[.string f.b0, .string f.b1, .int .i64 f.e0, .int .i64 f.e1, .int .i64 f.lim], .agg #[.int .i64 k, .int .i64 b, .int .i64 q, .string d]] W (.tuple #[.agg #[.string f.b0, .string f.b1, .int .i64 f.e0, .int .i64 f.e1, .int .i64 f.lim], .int .i64 1]) := by
  have n1 : (k == 1) = false := beq_eq_false_iff_ne.2 h1
  have n2 : (k == 2) = false := beq_eq_false_iff_ne.2 h2
  have st := Bs.in3 W 25 [.string f.b0, .string f.b1, .int .i64 f.e0, .int .i64 f.e1, .int .i64 f.lim] 95 [.int .i64 k, .int .i64 b, .int .i64 q, .string d] 25 [.string ⟨#[]⟩, .string ⟨#[]⟩, .int .i64 0, .int .i64 0, .int .i64 0]
  go_enter Tryz.func38, Tryz.ntmps38
  go_wp2
  exact bodyPost_ret (v := .tuple #[.agg #[.string f.b0, .string f.b1, .int .i64 f.e0, .int .i64 f.e1, .int .i64 f.lim], .int .i64 1]) (by simp [results, Tryz.results38, go_sem]) rfl ⟨rfl, (((Below.refl _ _).alloc (Nat.le_refl _) _).alloc (by simp) _).alloc (by simp; omega) _⟩

theorem own04Do (f : Fl) (o : PwOp) (W : World) (hf : f.fit) (ho : o.ok) :
    Gives Tryz.prog 38 #[.agg #[.string f.b0, .string f.b1, .int .i64 f.e0, .int .i64 f.e1, .int .i64 f.lim], .agg #[.int .i64 o.kind, .int .i64 o.bank, .int .i64 o.q, .string o.d]] W (.tuple #[.agg #[.string (doF f o).b0, .string (doF f o).b1, .int .i64 (doF f o).e0, .int .i64 (doF f o).e1, .int .i64 (doF f o).lim], .int .i64 (doErr f o)]) := by
  obtain ⟨k, b, q, d⟩ := o
  have hd := ho.sd
  have hq := ho.nq
  by_cases h1 : k = 1
  · subst h1; exact pwDo1 f b q d W hf hd hq.2
  · by_cases h2 : k = 2
    · subst h2; exact pwDo2 f b q d W hf hd hq.2
    · have e1 : doErr f ⟨k, b, q, d⟩ = 1 := by unfold doErr; rw [if_neg h1, if_neg h2]
      have e2 : doF f ⟨k, b, q, d⟩ = f := by unfold doF; rw [if_neg h1, if_neg h2]
      rw [e1, e2]
      exact pwDo0 f k b q d W h1 h2

set_option maxRecDepth 100000 in
set_option maxHeartbeats 4000000 in
theorem pwUnreached (m : ByteArray) (n : Nat) (W : World) (hm : m.size ≤ maxLen) (hn : n ≤ 140737488351232) :
    Gives Tryz.prog 65 #[.string m, .int .i64 n] W (.string (unrT m n)) := by
  obtain ⟨i0, hi, hz0, hz1, hz2⟩ := info_parts Tryz.info_u8
  unfold maxLen at hm
  go_enter Tryz.func65, Tryz.ntmps65
  go_wp2_with (refine wpList_make_full _ rfl _ _ 108 rfl W.heap.size 5 i0 (.int .u8 0) 1 Tryz.underlying108 hi hz0 hz1 .i64 .i64 _ _ n rfl rfl rfl rfl (by rw [hz2]; omega) (by unfold maxLen; omega) (Nat.le_refl _) ?_; intro w1 hown hg1)
  have hB : Below W.heap.size W w1 := (Below.refl _ _).grown hg1 (Nat.le_refl _) (fun k e => by cases e)
  rw [show madeCells (Value.int .u8 0).cells (n * 1) = madeCells #[.int .u8 0] n from by simp [Value.cells], toList_madeCells_one] at hown
  have hz : (filled (unrF m) 0 n).map b8v = List.replicate n (.int .u8 0) := by rw [filled_zero]; simp [b8v]
  rw [← hz] at hown
  clear hz hg1
  go_loopw [11] (fun i w => ∃ k : Nat, k ≤ n ∧ i = .int .i64 k ∧ w.ownsRow W.heap.size 5 1 (.slice (some ⟨W.heap.size, 0, none⟩) n n) n ((filled (unrF m) k n).map b8v) ∧ Below W.heap.size W w)
    (fun i _ => n - (intOf i).toNat)
  case atStart => exact ⟨0, Nat.zero_le _, rfl, hown, hB⟩
  case round =>
    clear hown hB
    obtain ⟨k, hk, rfl, hown, hB⟩ := hrel
    by_cases hlt : k < n
    · have hfr := hown.frozenAt k
      have hcx := hown.cellAt k (by omega)
      rw [List.getElem?_eq_getElem (by rw [List.length_map, filled_length]; exact hlt)] at hcx
      have hx1 : (0 : Int) ≤ (k : Int) := by omega
      have hx2 : (k : Int) < (n : Int) := by omega
      have i1 : ¬ 9223372036854775807 < (k : Int) + 1 := by omega
      by_cases hin : k < m.size
      · have hin2 : (k : Int) < (m.size : Int) := by omega
        have hgd := gd_in m k 0 hin
        by_cases hodd : m[k].toNat % 2 = 1
        · have hv : unrF m k = 0 := by rw [unrF, hgd, unrB, if_pos hodd]
          have n1 : (((m[k].toNat : Int) % 2) == 0) = false := by rw [beq_eq_false_iff_ne]; omega
          have hown2 := hown
          rw [filled_skip _ _ _ hv] at hown2
          clear hown hgd hodd hv hfr hcx
          go_wp2
          go_roundw
          case rel => exact ⟨k + 1, by omega, by go_num, hown2, hB⟩
          case measure => simp [intOf]; omega
        · have hv : unrF m k = 255 := by rw [unrF, hgd, unrB, if_neg hodd]
          have n1 : (((m[k].toNat : Int) % 2) == 0) = true := by rw [beq_iff_eq]; omega
          have hst := (hown.stored k (.int .u8 255)).1
          rw [show (Value.int .u8 255) = b8v (unrF m k) from by rw [hv]; rfl, ← List.map_set, filled_set _ _ _ hlt, show b8v (unrF m k) = (Value.int .u8 255) from by rw [hv]; rfl] at hst
          replace hst := Lib.hid hst
          clear hown hgd hodd hv
          go_wp2
          go_roundw
          case rel => exact ⟨k + 1, by omega, by go_num, hst.out, hB.setCell (Nat.le_refl _) _⟩
          case measure => simp [intOf]; omega
      · have hin2 : (k : Int) ≥ (m.size : Int) := by omega
        have hv : unrF m k = 255 := by rw [unrF, gd_out m k 0 (by omega)]; rfl
        have hst := (hown.stored k (.int .u8 255)).1
        rw [show (Value.int .u8 255) = b8v (unrF m k) from by rw [hv]; rfl, ← List.map_set, filled_set _ _ _ hlt, show b8v (unrF m k) = (Value.int .u8 255) from by rw [hv]; rfl] at hst
        replace hst := Lib.hid hst
        clear hown hin hv
        go_wp2
        go_roundw
        case rel => exact ⟨k + 1, by omega, by go_num, hst.out, hB.setCell (Nat.le_refl _) _⟩
        case measure => simp [intOf]; omega
    · obtain rfl : k = n := by omega
      have hr := filled_all (unrF m) k
      rw [hr] at hown
      have hcv := owns_string (P := Tryz.prog) (src := 108) (dst := 9) Tryz.underlying108 Tryz.underlying5 Tryz.underlying9 hown
      clear hr hown
      go_wp2
      go_ret
      exact ⟨rfl, hB⟩
end Go.Proofs.YthmpjoiifglbjaaGreat

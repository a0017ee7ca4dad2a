/- The program's own functions of layer 4: contracts only. -/
import Derived.Test.YthmpjoiifglbjaaGreatRows
import Derived.Test.YthmpjoiifglbjaaGreatJourFit
import Derived.Test.YthmpjoiifglbjaaGreatJourOpen
import Derived.Test.YthmpjoiifglbjaaGreatBox
import Derived.Test.YthmpjoiifglbjaaGreatInts
import Derived.WalkKit
import Derived.ProofKit
import Derived.Lib.Hide
import Derived.Deep.RegionHeld3
import Derived.WalkLawsBesides
import Derived.WalkSpells
import Derived.IntWalk
import Derived.Test.YthmpjoiifglbjaaGreatPower
import Derived.Test.YthmpjoiifglbjaaGreatClear
import Derived.Test.YthmpjoiifglbjaaGreatBs
import Derived.OwnWalk
import Derived.BigQuiet
import Derived.Deep.QuietTactic
namespace Go.Proofs.YthmpjoiifglbjaaGreat
open Go.RowKit
set_option linter.unusedVariables false
set_option linter.unusedSimpArgs false

def big12 (f : Fl) (l : List Stp) : Bool := (l.take 70).any (fun s => decide (400 < s.mask.size)) || (decide ((400 : Int) < (f.b0.size : Int)) || decide ((400 : Int) < (f.b1.size : Int)) || decide ((60 : Int) < (l.length : Int)))
theorem big12_no {f : Fl} {l : List Stp} (h : big12 f l = false) : l.length ≤ 60 := by unfold big12 at h; simp at h; omega

set_option maxRecDepth 100000 in
set_option maxHeartbeats 4000000 in
theorem law12Big (f : Fl) (l : List Stp) (A : Option Addr) (c : Nat) (W : World) (ho : ∀ o ∈ l, o.ok) (hl : RowsAt 3 stpV W A l) (hc : l.length ≤ c ∧ c ≤ maxLen) :
    Calls Tryz.prog 6 #[.agg #[.string f.b0, .string f.b1, .int .i64 f.e0, .int .i64 f.e1, .int .i64 f.lim], .slice A l.length c] W fun e W' => e = .returned (.bool (big12 f l)) ∧ Below W.heap.size W W' := by
  have HL := Lib.hid (fun k o hk => hl.hop k o hk)
  obtain ⟨hc1, hc2⟩ := hc
  unfold maxLen at hc2
  clear hl
  obtain ⟨B, hBg⟩ : ∃ B, big12 f l = B := ⟨_, rfl⟩
  rw [hBg]
  replace hBg := Lib.hid hBg
  have hB : Below W.heap.size W (W.alloc (.cells #[.string f.b0, .string f.b1, .int .i64 f.e0, .int .i64 f.e1, .int .i64 f.lim] 25)) := ((Below.refl _ _).alloc (Nat.le_refl _) _)
  have xf := (Box.new 25 W [.string f.b0, .string f.b1, .int .i64 f.e0, .int .i64 f.e1, .int .i64 f.lim])
  go_enter Tryz.func6, Tryz.ntmps6
  go_wp2
  go_loopw [5] (fun i w => ∃ k : Nat, k ≤ l.length ∧ k ≤ 70 ∧ i = .int .i64 k ∧ (∀ j o, j < k → l[j]? = some o → o.mask.size ≤ 400) ∧ Box 25 w W.heap.size [.string f.b0, .string f.b1, .int .i64 f.e0, .int .i64 f.e1, .int .i64 f.lim] ∧ Below W.heap.size W w) (fun i _ => l.length - (intOf i).toNat)
  case atStart => exact ⟨0, Nat.zero_le _, Nat.zero_le _, rfl, fun j o h => by omega, xf, hB⟩
  case round =>
    clear xf hB
    obtain ⟨k, hk, hk7, rfl, hno, xf, hB⟩ := hrel
    replace hno := Lib.hid hno
    by_cases hlt : k < l.length
    · by_cases h70 : k < 70
      · obtain ⟨s, hs⟩ : ∃ s, l[k]? = some s := ⟨_, List.getElem?_eq_getElem hlt⟩
        obtain ⟨g, off, rfl, HC⟩ := HL.out k s hs
        have c2 : wr.cell? ⟨g, off + k * 3 + 2, none⟩ = some (.string s.mask) := HC _ hB 2 (by decide)
        clear HC HL
        have hsm : s.mask.size ≤ 2 ^ 63 - 1 := (ho s (List.mem_of_getElem? hs)).sm
        have j0 : (0 : Int) ≤ (k : Int) := by omega
        have j1 : (k : Int) < (l.length : Int) := by omega
        have j2 : (k : Int) < 70 := by omega
        by_cases hbig : 400 < s.mask.size
        · have H := Lib.hid (show big12 f l = true from by
            unfold big12; rw [Bool.or_eq_true]; left; rw [List.any_eq_true]
            exact ⟨s, List.mem_of_getElem? (by rw [List.getElem?_take, if_pos h70]; exact hs), by simpa using hbig⟩)
          have j3 : (s.mask.size : Int) > 400 := by omega
          obtain rfl : B = true := hBg.out.symm.trans H.out
          clear hs hno
          go_wp2
          go_ret
          exact ⟨rfl, hB⟩
        · have j3 : ¬ (s.mask.size : Int) > 400 := by omega
          have hno2 := Lib.hid (show ∀ j o, j < k + 1 → l[j]? = some o → o.mask.size ≤ 400 from fun j o hj hjo => by
            by_cases e : j = k
            · subst e; rw [hs] at hjo; cases hjo; omega
            · exact hno.out j o (by omega) hjo)
          clear hs hno
          go_wp2
          go_roundw
          case rel => exact ⟨k + 1, by omega, by omega, by go_num, hno2.out, xf, hB⟩
          case measure => simp [intOf]; omega
      · obtain rfl : k = 70 := by omega
        have j1 : ((70 : Nat) : Int) < (l.length : Int) := by omega
        clear HL
        have HA : ∀ s ∈ l.take 70, s.mask.size ≤ 400 := fun s hs => by
          obtain ⟨j, hj, he⟩ := List.mem_iff_getElem.1 hs
          rw [List.length_take] at hj
          rw [List.getElem_take] at he
          exact hno.out j s (by omega) (by rw [List.getElem?_eq_getElem (by omega), he])
        have HF : big12 f l = (decide ((400 : Int) < (f.b0.size : Int)) || decide ((400 : Int) < (f.b1.size : Int)) || decide ((60 : Int) < (l.length : Int))) := by
          unfold big12
          rw [show ((l.take 70).any fun s => decide (400 < s.mask.size)) = false from List.any_eq_false.2 (fun s hs => by have := HA s hs; simp; omega), Bool.false_or]
        have HF := Lib.hid (hBg.out.symm.trans HF)
        clear HA hno hBg
        by_cases z0 : 400 < f.b0.size
        · have m1 : (f.b0.size : Int) > 400 := by omega
          obtain rfl : B = true := by rw [HF.out]; simp <;> omega
          clear HF
          obtain ⟨xf0, xfz0, xf1, xfz1, xf2, xfz2, xf3, xfz3, xf4, xfz4⟩ := xf.f5
          go_wp2
          go_ret
          exact ⟨rfl, hB⟩
        · have m1 : ¬ (f.b0.size : Int) > 400 := by omega
          by_cases z1 : 400 < f.b1.size
          · have m2 : (f.b1.size : Int) > 400 := by omega
            obtain rfl : B = true := by rw [HF.out]; simp <;> omega
            clear HF
            obtain ⟨xf0, xfz0, xf1, xfz1, xf2, xfz2, xf3, xfz3, xf4, xfz4⟩ := xf.f5
            go_wp2
            go_ret
            exact ⟨rfl, hB⟩
          · have m2 : ¬ (f.b1.size : Int) > 400 := by omega
            by_cases z2 : 60 < l.length
            · have m3 : (l.length : Int) > 60 := by omega
              obtain rfl : B = true := by rw [HF.out]; simp <;> omega
              clear HF
              obtain ⟨xf0, xfz0, xf1, xfz1, xf2, xfz2, xf3, xfz3, xf4, xfz4⟩ := xf.f5
              go_wp2
              go_ret
              exact ⟨rfl, hB⟩
            · exact absurd (by omega) z2
    · obtain rfl : k = l.length := by omega
      clear HL
      have HA : ∀ s ∈ l.take 70, s.mask.size ≤ 400 := fun s hs => by
        obtain ⟨j, hj, he⟩ := List.mem_iff_getElem.1 hs
        rw [List.length_take] at hj
        rw [List.getElem_take] at he
        exact hno.out j s (by omega) (by rw [List.getElem?_eq_getElem (by omega), he])
      have HF : big12 f l = (decide ((400 : Int) < (f.b0.size : Int)) || decide ((400 : Int) < (f.b1.size : Int)) || decide ((60 : Int) < (l.length : Int))) := by
        unfold big12
        rw [show ((l.take 70).any fun s => decide (400 < s.mask.size)) = false from List.any_eq_false.2 (fun s hs => by have := HA s hs; simp; omega), Bool.false_or]
      have HF := Lib.hid (hBg.out.symm.trans HF)
      clear HA hno hBg
      by_cases z0 : 400 < f.b0.size
      · have m1 : (f.b0.size : Int) > 400 := by omega
        obtain rfl : B = true := by rw [HF.out]; simp <;> omega
        clear HF
        obtain ⟨xf0, xfz0, xf1, xfz1, xf2, xfz2, xf3, xfz3, xf4, xfz4⟩ := xf.f5
        go_wp2
        go_ret
        exact ⟨rfl, hB⟩
      · have m1 : ¬ (f.b0.size : Int) > 400 := by omega
        by_cases z1 : 400 < f.b1.size
        · have m2 : (f.b1.size : Int) > 400 := by omega
          obtain rfl : B = true := by rw [HF.out]; simp <;> omega
          clear HF
          obtain ⟨xf0, xfz0, xf1, xfz1, xf2, xfz2, xf3, xfz3, xf4, xfz4⟩ := xf.f5
          go_wp2
          go_ret
          exact ⟨rfl, hB⟩
        · have m2 : ¬ (f.b1.size : Int) > 400 := by omega
          by_cases z2 : 60 < l.length
          · have m3 : (l.length : Int) > 60 := by omega
            obtain rfl : B = true := by rw [HF.out]; simp <;> omega
            clear HF
            obtain ⟨xf0, xfz0, xf1, xfz1, xf2, xfz2, xf3, xfz3, xf4, xfz4⟩ := xf.f5
            go_wp2
            go_ret
            exact ⟨rfl, hB⟩
          · have m3 : ¬ (l.length : Int) > 60 := by omega
            obtain rfl : B = false := by rw [HF.out]; simp <;> omega
            clear HF
            obtain ⟨xf0, xfz0, xf1, xfz1, xf2, xfz2, xf3, xfz3, xf4, xfz4⟩ := xf.f5
            go_wp2
            go_ret
            exact ⟨rfl, hB⟩

end Go.Proofs.YthmpjoiifglbjaaGreat
namespace Go.Proofs.YthmpjoiifglbjaaGreat
open Go.RowKit
set_option linter.unusedVariables false

def opV (o : PwOp) : List Value := [.int .i64 o.kind, .int .i64 o.bank, .int .i64 o.q, .string o.d]
/-- A slice (its address) holds these ops, below the heap's end. -/
def OpsAt (W : World) (A : Option Addr) (l : List PwOp) : Prop :=
  0 < l.length → ∃ g off, A = some ⟨g, off, none⟩ ∧ g < W.heap.size ∧ ∀ k o, l[k]? = some o →
    W.cell? ⟨g, off + k * 4, none⟩ = some (.int .i64 o.kind) ∧ W.cell? ⟨g, off + k * 4 + 1, none⟩ = some (.int .i64 o.bank) ∧ W.cell? ⟨g, off + k * 4 + 2, none⟩ = some (.int .i64 o.q) ∧ W.cell? ⟨g, off + k * 4 + 3, none⟩ = some (.string o.d)
theorem OpsAt.seq {W W' : World} {A : Option Addr} {l : List PwOp} (h : OpsAt W A l) (k : Below W.heap.size W W') : OpsAt W' A l := fun hn => by
  obtain ⟨g, off, e, hg, hc⟩ := h hn
  refine ⟨g, off, e, Nat.lt_of_lt_of_le hg k.size, fun i o ho => ?_⟩
  obtain ⟨a, b, c, d⟩ := hc i o ho
  exact ⟨(k.cell (p := ⟨g, _, none⟩) hg).trans a, (k.cell (p := ⟨g, _, none⟩) hg).trans b, (k.cell (p := ⟨g, _, none⟩) hg).trans c, (k.cell (p := ⟨g, _, none⟩) hg).trans d⟩
theorem OpsAt.alloc {W : World} {A : Option Addr} {l : List PwOp} (h : OpsAt W A l) (o : Obj) : OpsAt (W.alloc o) A l := h.seq ((Below.refl _ W).alloc (Nat.le_refl _) o)
theorem OpsAt.take {W : World} {A : Option Addr} {l : List PwOp} (h : OpsAt W A l) (n : Nat) : OpsAt W A (l.take n) := fun hn => by
  have hn' : 0 < l.length := by rw [List.length_take] at hn; omega
  obtain ⟨g, off, e, hg, hc⟩ := h hn'
  refine ⟨g, off, e, hg, fun i o ho => hc i o ?_⟩
  rw [List.getElem?_take] at ho
  by_cases hi : i < n
  · rwa [if_pos hi] at ho
  · rw [if_neg hi] at ho; cases ho
/-- A literal of one op. -/
theorem OpsAt.one (W : World) (t : TypeId) (o : PwOp) : OpsAt (W.alloc (.cells #[.int .i64 o.kind, .int .i64 o.bank, .int .i64 o.q, .string o.d] t)) (some ⟨W.heap.size, 0, none⟩) [o] := fun _ => by
  refine ⟨_, _, rfl, by simp, fun k o' ho => ?_⟩
  match k, ho with
  | 0, ho =>
    simp only [List.getElem?_cons_zero, Option.some.injEq] at ho
    subst ho
    refine ⟨?_, ?_, ?_, ?_⟩
    all_goals rw [cell_of_row _ W.heap.size _ _ _ (0, 0) (World.alloc_heap_new W _)]; rfl
theorem flat_op (l : List PwOp) (k i : Nat) (o : PwOp) (h : l[k]? = some o) (hi : i < 4) : (l.flatMap opV)[k * 4 + i]? = (opV o)[i]? := by
  induction l generalizing k with
  | nil => cases h
  | cons a l ih =>
    rw [List.flatMap_cons]
    cases k with
    | zero =>
      simp only [List.getElem?_cons_zero, Option.some.injEq] at h
      subst h
      rw [List.getElem?_append_left (by simp [opV]; omega)]
      congr 1; omega
    | succ k =>
      rw [List.getElem?_append_right (by simp [opV]; omega)]
      have := ih k (by simpa using h)
      rw [← this]
      congr 1
      simp [opV]; omega
/-- A literal of ops. -/
theorem OpsAt.lit (W : World) (t : TypeId) (l : List PwOp) : OpsAt (W.alloc (.cells (l.flatMap opV).toArray t)) (some ⟨W.heap.size, 0, none⟩) l := fun _ => by
  refine ⟨_, _, rfl, by simp, fun k o ho => ?_⟩
  have hc : ∀ i, i < 4 → (W.alloc (.cells (l.flatMap opV).toArray t)).cell? ⟨W.heap.size, 0 + k * 4 + i, none⟩ = (opV o)[i]? := fun i hi => by
    rw [cell_of_row _ W.heap.size _ _ _ (0, 0) (World.alloc_heap_new W _), Nat.zero_add]
    simpa using flat_op l k i o ho hi
  exact ⟨hc 0 (by decide), hc 1 (by decide), hc 2 (by decide), hc 3 (by decide)⟩
end Go.Proofs.YthmpjoiifglbjaaGreat
namespace Go.Proofs.YthmpjoiifglbjaaGreat
open Go.RowKit
set_option linter.unusedVariables false
set_option linter.unusedSimpArgs false

set_option maxRecDepth 100000 in
set_option maxHeartbeats 4000000 in
theorem pwDo1 (f : Fl) (b q : Int) (d : ByteArray) (W : World) (hf : f.fit) (hd : d.size ≤ maxLen) (hq : q ≤ 9223372036854775807) :
    Gives Tryz.prog 38 #[.agg #[.string f.b0, .string f.b1, .int .i64 f.e0, .int .i64 f.e1, .int .i64 f.lim], .agg #[.int .i64 1, .int .i64 b, .int .i64 q, .string d]] W (.tuple #[.agg #[.string (progF f b q d).b0, .string (progF f b q d).b1, .int .i64 (progF f b q d).e0, .int .i64 (progF f b q d).e1, .int .i64 (progF f b q d).lim], .int .i64 (progErr f b q d)]) := by
  have T := Lib.hid (fun (W : World) => flProgram f b q d W hf hd (by omega))
  generalize progF f b q d = g at *
  generalize progErr f b q d = E at *
  have st := Bs.in3 W 25 [.string f.b0, .string f.b1, .int .i64 f.e0, .int .i64 f.e1, .int .i64 f.lim] 95 [.int .i64 1, .int .i64 b, .int .i64 q, .string d] 25 [.string ⟨#[]⟩, .string ⟨#[]⟩, .int .i64 0, .int .i64 0, .int .i64 0]
  go_enter Tryz.func38, Tryz.ntmps38
  go_wp2_with fail; refine callB st (T.out _) ?_; clear st; intro V1 st
  have fc := And.intro (st.box 2 rfl).f5 (And.intro (st.box 1 rfl).f4 (st.box 0 rfl).f5)
  go_wp2
  clear fc
  replace st := st.put5 0 (.string g.b0) (.string g.b1) (.int .i64 g.e0) (.int .i64 g.e1) (.int .i64 g.lim) rfl; obtain ⟨V2, hV, st⟩ := st; rw [hV]; clear hV
  have fc := And.intro (st.box 2 rfl).f5 (And.intro (st.box 1 rfl).f4 (st.box 0 rfl).f5)
  exact bodyPost_ret (v := .tuple #[.agg #[.string g.b0, .string g.b1, .int .i64 g.e0, .int .i64 g.e1, .int .i64 g.lim], .int .i64 E]) (by simp [results, Tryz.results38, go_sem, fc]) rfl ⟨rfl, st.lo⟩

set_option maxRecDepth 100000 in
set_option maxHeartbeats 4000000 in
theorem pwDo2 (f : Fl) (b q : Int) (d : ByteArray) (W : World) (hf : f.fit) (hd : d.size ≤ maxLen) (hq : q ≤ 9223372036854775807) :
    Gives Tryz.prog 38 #[.agg #[.string f.b0, .string f.b1, .int .i64 f.e0, .int .i64 f.e1, .int .i64 f.lim], .agg #[.int .i64 2, .int .i64 b, .int .i64 q, .string d]] W (.tuple #[.agg #[.string (eraseF f b).b0, .string (eraseF f b).b1, .int .i64 (eraseF f b).e0, .int .i64 (eraseF f b).e1, .int .i64 (eraseF f b).lim], .int .i64 (eraseErr f b)]) := by
  have T := Lib.hid (fun (W : World) => flErase f b W hf)
  generalize eraseF f b = g at *
  generalize eraseErr f b = E at *
  have st := Bs.in3 W 25 [.string f.b0, .string f.b1, .int .i64 f.e0, .int .i64 f.e1, .int .i64 f.lim] 95 [.int .i64 2, .int .i64 b, .int .i64 q, .string d] 25 [.string ⟨#[]⟩, .string ⟨#[]⟩, .int .i64 0, .int .i64 0, .int .i64 0]
  go_enter Tryz.func38, Tryz.ntmps38
  go_wp2_with fail; refine callB st (T.out _) ?_; clear st; intro V1 st
  have fc := And.intro (st.box 2 rfl).f5 (And.intro (st.box 1 rfl).f4 (st.box 0 rfl).f5)
  go_wp2
  clear fc
  replace st := st.put5 0 (.string g.b0) (.string g.b1) (.int .i64 g.e0) (.int .i64 g.e1) (.int .i64 g.lim) rfl; obtain ⟨V2, hV, st⟩ := st; rw [hV]; clear hV
  have fc := And.intro (st.box 2 rfl).f5 (And.intro (st.box 1 rfl).f4 (st.box 0 rfl).f5)
  exact bodyPost_ret (v := .tuple #[.agg #[.string g.b0, .string g.b1, .int .i64 g.e0, .int .i64 g.e1, .int .i64 g.lim], .int .i64 E]) (by simp [results, Tryz.results38, go_sem, fc]) rfl ⟨rfl, st.lo⟩

set_option maxRecDepth 100000 in
set_option maxHeartbeats 4000000 in
theorem pwDo0 (f : Fl) (k b q : Int) (d : ByteArray) (W : World) (h1 : k ≠ 1) (h2 : k ≠ 2) :
    Gives Tryz.prog 38 #[.agg #[.string f.b0, .string f.b1, .int .i64 f.e0, .int .i64 f.e1, .int .i64 f.lim], .agg #[.int .i64 k, .int .i64 b, .int .i64 q, .string d]] W (.tuple #[.agg #[.string f.b0, .string f.b1, .int .i64 f.e0, .int .i64 f.e1, .int .i64 f.lim], .int .i64 1]) := by
  have n1 : (k == 1) = false := beq_eq_false_iff_ne.2 h1
  have n2 : (k == 2) = false := beq_eq_false_iff_ne.2 h2
  have st := Bs.in3 W 25 [.string f.b0, .string f.b1, .int .i64 f.e0, .int .i64 f.e1, .int .i64 f.lim] 95 [.int .i64 k, .int .i64 b, .int .i64 q, .string d] 25 [.string ⟨#[]⟩, .string ⟨#[]⟩, .int .i64 0, .int .i64 0, .int .i64 0]
  go_enter Tryz.func38, Tryz.ntmps38
  go_wp2
  exact bodyPost_ret (v := .tuple #[.agg #[.string f.b0, .string f.b1, .int .i64 f.e0, .int .i64 f.e1, .int .i64 f.lim], .int .i64 1]) (by simp [results, Tryz.results38, go_sem]) rfl ⟨rfl, (((Below.refl _ _).alloc (Nat.le_refl _) _).alloc (by simp) _).alloc (by simp; omega) _⟩

theorem own04Do (f : Fl) (o : PwOp) (W : World) (hf : f.fit) (ho : o.ok) :
    Gives Tryz.prog 38 #[.agg #[.string f.b0, .string f.b1, .int .i64 f.e0, .int .i64 f.e1, .int .i64 f.lim], .agg #[.int .i64 o.kind, .int .i64 o.bank, .int .i64 o.q, .string o.d]] W (.tuple #[.agg #[.string (doF f o).b0, .string (doF f o).b1, .int .i64 (doF f o).e0, .int .i64 (doF f o).e1, .int .i64 (doF f o).lim], .int .i64 (doErr f o)]) := by
  obtain ⟨k, b, q, d⟩ := o
  have hd := ho.sd
  have hq := ho.nq
  by_cases h1 : k = 1
  · subst h1; exact pwDo1 f b q d W hf hd hq.2
  · by_cases h2 : k = 2
    · subst h2; exact pwDo2 f b q d W hf hd hq.2
    · have e1 : doErr f ⟨k, b, q, d⟩ = 1 := by unfold doErr; rw [if_neg h1, if_neg h2]
      have e2 : doF f ⟨k, b, q, d⟩ = f := by unfold doF; rw [if_neg h1, if_neg h2]
      rw [e1, e2]
      exact pwDo0 f k b q d W h1 h2

set_option maxRecDepth 100000 in
set_option maxHeartbeats 4000000 in
theorem pwUnreached (m : ByteArray) (n : Nat) (W : World) (hm : m.size ≤ maxLen) (hn : n ≤ 140737488351232) :
    Gives Tryz.prog 65 #[.string m, .int .i64 n] W (.string (unrT m n)) := by
  obtain ⟨i0, hi, hz0, hz1, hz2⟩ := info_parts Tryz.info_u8
  unfold maxLen at hm
  go_enter Tryz.func65, Tryz.ntmps65
  go_wp2_with (refine wpList_make_full _ rfl _ _ 108 rfl W.heap.size 5 i0 (.int .u8 0) 1 Tryz.underlying108 hi hz0 hz1 .i64 .i64 _ _ n rfl rfl rfl rfl (by rw [hz2]; omega) (by unfold maxLen; omega) (Nat.le_refl _) ?_; intro w1 hown hg1)
  have hB : Below W.heap.size W w1 := (Below.refl _ _).grown hg1 (Nat.le_refl _) (fun k e => by cases e)
  rw [show madeCells (Value.int .u8 0).cells (n * 1) = madeCells #[.int .u8 0] n from by simp [Value.cells], toList_madeCells_one] at hown
  have hz : (filled (unrF m) 0 n).map b8v = List.replicate n (.int .u8 0) := by rw [filled_zero]; simp [b8v]
  rw [← hz] at hown
  clear hz hg1
  go_loopw [11] (fun i w => ∃ k : Nat, k ≤ n ∧ i = .int .i64 k ∧ w.ownsRow W.heap.size 5 1 (.slice (some ⟨W.heap.size, 0, none⟩) n n) n ((filled (unrF m) k n).map b8v) ∧ Below W.heap.size W w)
    (fun i _ => n - (intOf i).toNat)
  case atStart => exact ⟨0, Nat.zero_le _, rfl, hown, hB⟩
  case round =>
    clear hown hB
    obtain ⟨k, hk, rfl, hown, hB⟩ := hrel
    by_cases hlt : k < n
    · have hfr := hown.frozenAt k
      have hcx := hown.cellAt k (by omega)
      rw [List.getElem?_eq_getElem (by rw [List.length_map, filled_length]; exact hlt)] at hcx
      have hx1 : (0 : Int) ≤ (k : Int) := by omega
      have hx2 : (k : Int) < (n : Int) := by omega
      have i1 : ¬ 9223372036854775807 < (k : Int) + 1 := by omega
      by_cases hin : k < m.size
      · have hin2 : (k : Int) < (m.size : Int) := by omega
        have hgd := gd_in m k 0 hin
        by_cases hodd : m[k].toNat % 2 = 1
        · have hv : unrF m k = 0 := by rw [unrF, hgd, unrB, if_pos hodd]
          have n1 : (((m[k].toNat : Int) % 2) == 0) = false := by rw [beq_eq_false_iff_ne]; omega
          have hown2 := hown
          rw [filled_skip _ _ _ hv] at hown2
          clear hown hgd hodd hv hfr hcx
          go_wp2
          go_roundw
          case rel => exact ⟨k + 1, by omega, by go_num, hown2, hB⟩
          case measure => simp [intOf]; omega
        · have hv : unrF m k = 255 := by rw [unrF, hgd, unrB, if_neg hodd]
          have n1 : (((m[k].toNat : Int) % 2) == 0) = true := by rw [beq_iff_eq]; omega
          have hst := (hown.stored k (.int .u8 255)).1
          rw [show (Value.int .u8 255) = b8v (unrF m k) from by rw [hv]; rfl, ← List.map_set, filled_set _ _ _ hlt, show b8v (unrF m k) = (Value.int .u8 255) from by rw [hv]; rfl] at hst
          replace hst := Lib.hid hst
          clear hown hgd hodd hv
          go_wp2
          go_roundw
          case rel => exact ⟨k + 1, by omega, by go_num, hst.out, hB.setCell (Nat.le_refl _) _⟩
          case measure => simp [intOf]; omega
      · have hin2 : (k : Int) ≥ (m.size : Int) := by omega
        have hv : unrF m k = 255 := by rw [unrF, gd_out m k 0 (by omega)]; rfl
        have hst := (hown.stored k (.int .u8 255)).1
        rw [show (Value.int .u8 255) = b8v (unrF m k) from by rw [hv]; rfl, ← List.map_set, filled_set _ _ _ hlt, show b8v (unrF m k) = (Value.int .u8 255) from by rw [hv]; rfl] at hst
        replace hst := Lib.hid hst
        clear hown hin hv
        go_wp2
        go_roundw
        case rel => exact ⟨k + 1, by omega, by go_num, hst.out, hB.setCell (Nat.le_refl _) _⟩
        case measure => simp [intOf]; omega
    · obtain rfl : k = n := by omega
      have hr := filled_all (unrF m) k
      rw [hr] at hown
      have hcv := owns_string (P := Tryz.prog) (src := 108) (dst := 9) Tryz.underlying108 Tryz.underlying5 Tryz.underlying9 hown
      clear hr hown
      go_wp2
      go_ret
      exact ⟨rfl, hB⟩
end Go.Proofs.YthmpjoiifglbjaaGreat

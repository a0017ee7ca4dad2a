/- The program's own Read of layer 3, which throws what is out of bounds and catches it: contracts only. -/
import Derived.Test.YthmpjoiifglbjaaGreatRows
import Derived.Test.YthmpjoiifglbjaaGreatFlash
import Derived.Test.YthmpjoiifglbjaaGreatInts
import Derived.WalkKit
import Derived.ProofKit
import Derived.Lib.Hide
import Derived.Tactics
import Derived.Tactics2
import Derived.Defers
import Derived.Recover
import Derived.Laws.Pointers
import Derived.WalkLawsBesides
import Derived.Test.YthmpjoiifglbjaaGreatBox
namespace Go.Proofs.YthmpjoiifglbjaaGreat
open Go.RowKit
set_option linter.unusedVariables false

/-- A flash whose banks are no greater than a text in memory may be. -/
structure Fl.fit (f : Fl) : Prop where
  ok : f.ok
  z0 : f.b0.size ≤ 140737488351232
  z1 : f.b1.size ≤ 140737488351232

/-- What api.Errno n is when it is thrown. -/
def thrown (n : Int) (r : Bool) : PanicEntry := { v := .iface 32 (.int .i64 n), recovered := r }

set_option maxRecDepth 100000 in
theorem flWhole0 (f : Fl) (W : World) : Calls Tryz.prog 123 #[.agg #[.string f.b0, .string f.b1, .int .i64 f.e0, .int .i64 f.e1, .int .i64 f.lim], .int .i64 0] W fun e W' => e = .returned (.string f.b0) ∧ Below W.heap.size W W' := by
  go_enter Tryz.func123, Tryz.ntmps123
  go_wp2
  go_ret
  exact ⟨rfl, (Below.refl _ _).alloc (Nat.le_refl _) _⟩

set_option maxRecDepth 100000 in
theorem flWhole1 (f : Fl) (W : World) : Calls Tryz.prog 123 #[.agg #[.string f.b0, .string f.b1, .int .i64 f.e0, .int .i64 f.e1, .int .i64 f.lim], .int .i64 1] W fun e W' => e = .returned (.string f.b1) ∧ Below W.heap.size W W' := by
  go_enter Tryz.func123, Tryz.ntmps123
  go_wp2
  go_ret
  exact ⟨rfl, (Below.refl _ _).alloc (Nat.le_refl _) _⟩

set_option maxRecDepth 100000 in
theorem flWholeBad (f : Fl) (bank : Int) (W : World) (h0 : bank ≠ 0) (h1 : bank ≠ 1) : Calls Tryz.prog 123 #[.agg #[.string f.b0, .string f.b1, .int .i64 f.e0, .int .i64 f.e1, .int .i64 f.lim], .int .i64 bank] W fun e W' => e = .panicked [thrown 1 false] ∧ Below W.heap.size W W' := by
  have n0 : (bank != 0) = true := bne_iff_ne.2 h0
  have n1 : (bank != 1) = true := bne_iff_ne.2 h1
  go_enter Tryz.func123, Tryz.ntmps123
  go_wp2
  exact ⟨rfl, rfl, (Below.refl _ _).alloc (Nat.le_refl _) _⟩

set_option maxRecDepth 100000 in
theorem flPart (s : ByteArray) (q n : Nat) (W : World) (hs : s.size ≤ maxLen) (h : q + n ≤ s.size) : Calls Tryz.prog 122 #[.string s, .int .i64 q, .int .i64 n] W fun e W' => e = .returned (.string (s.extract q (q + n))) ∧ W' = W := by
  unfold maxLen at hs
  have i1 : ¬ (q : Int) < 0 := by omega
  have i2 : ¬ (n : Int) < 0 := by omega
  have i3 : ¬ (n : Int) > (s.size : Int) - (q : Int) := by omega
  have i4 : (q : Int) + (n : Int) ≤ (s.size : Int) := by omega
  have i5 : ((q : Int) + (n : Int)).toNat = q + n := by omega
  have i6 : (q : Int) ≤ (q : Int) + (n : Int) := by omega
  have i7 : (0 : Int) ≤ (q : Int) + (n : Int) := by omega
  go_enter Tryz.func122, Tryz.ntmps122
  go_wp2
  go_ret
  exact ⟨rfl, rfl⟩

set_option maxRecDepth 100000 in
theorem flPartBad (s : ByteArray) (q n : Int) (W : World) (hs : s.size ≤ maxLen) (hq : q ≤ 9223372036854775807) (h : ¬ (0 ≤ q ∧ 0 ≤ n ∧ q + n ≤ s.size)) : Calls Tryz.prog 122 #[.string s, .int .i64 q, .int .i64 n] W fun e W' => e = .panicked [thrown 2 false] ∧ W' = W := by
  unfold maxLen at hs
  by_cases h1 : q < 0
  · go_enter Tryz.func122, Tryz.ntmps122
    go_wp2
    exact ⟨rfl, rfl, rfl⟩
  · by_cases h2 : n < 0
    · go_enter Tryz.func122, Tryz.ntmps122
      go_wp2
      exact ⟨rfl, rfl, rfl⟩
    · have h3 : n > (s.size : Int) - q := by omega
      have h4 : -9223372036854775808 ≤ (s.size : Int) - q := by omega
      have h5 : (s.size : Int) - q ≤ 9223372036854775807 := by omega
      clear h
      go_enter Tryz.func122, Tryz.ntmps122
      go_wp2
      exact ⟨rfl, rfl, rfl⟩

theorem taYes (W : World) (v : Value) : (Instr.typeAssert (.iface 32 v) 20 32 true).run Tryz.prog W = .ok (.tuple #[v, .bool true]) W := by kernel_rfl

theorem taNil (W : World) : (Instr.typeAssert .nilIface 20 32 true).run Tryz.prog W = .ok (.tuple #[.int .i64 0, .bool false]) W := by kernel_rfl

set_option maxRecDepth 100000 in
set_option maxHeartbeats 1000000 in
theorem catchThrown (p q : Addr) (hpq : p.block ≠ q.block) (x : ByteArray) (y m : Int) (older : List PanicEntry) (W : World) (hp : W.cell? p = some (.string x)) (hq : W.cell? q = some (.int .i64 y)) (hzp : W.frozen? p = false) (hzq : W.frozen? q = false) :
    CallsD Tryz.prog 121 #[.pointer (some p), .pointer (some q)] (.panicking (thrown m false :: older)) W fun e u' W' =>
      e = .returned (.tuple #[]) ∧ u' = .panicking (thrown m true :: older) ∧ W' = (W.setCell p (.string ⟨#[]⟩)).setCell q (.int .i64 m) := by
  have hq2 : (W.setCell p (.string ⟨#[]⟩)).cell? q = some (.int .i64 y) := (World.cell?_setCell_other _ _ _ _ (fun h => hpq (by rw [h]))).trans hq
  have t1 : ∀ (W : World) (v : Value), (Instr.typeAssert (.iface 32 v) 20 32 true).run Tryz.prog W = .ok (.tuple #[v, .bool true]) W := taYes
  refine callsD_of_wpS Tryz.func121 rfl fun c₀ cs hu => ?_
  simp only [Tryz.ntmps121, List.size_toArray, List.length_cons, List.length_nil, Nat.reduceAdd, Nat.reduceSub, Array.replicate_succ, Array.replicate_zero, List.push_toArray, List.append_toArray, List.nil_append, List.cons_append]
  apply wpS_seq
  apply wpS_region
  simp [wpOpsS, go_sem, recoverD, hu, thrown, Exit.thenS, t1]
  apply wpS_seq
  apply wpS_region
  simp [wpOpsS, go_sem, Exit.thenS]
  refine wpS_cond (t := true) (by simp [Act.eval]) ?_
  simp only [if_true]
  apply wpS_region
  simp [wpOpsS, go_sem, hp, hq2, hzp, hzq, bodyPostS, results, Tryz.results121]

set_option maxRecDepth 100000 in
set_option maxHeartbeats 1000000 in
theorem catchIdle (p q : Addr) (W : World) :
    CallsD Tryz.prog 121 #[.pointer (some p), .pointer (some q)] .returning W fun e u' W' => e = .returned (.tuple #[]) ∧ u' = .returning ∧ W' = W := by
  have t1 : ∀ (W : World), (Instr.typeAssert .nilIface 20 32 true).run Tryz.prog W = .ok (.tuple #[.int .i64 0, .bool false]) W := taNil
  refine callsD_of_wpS Tryz.func121 rfl fun c₀ cs hu => ?_
  simp only [Tryz.ntmps121, List.size_toArray, List.length_cons, List.length_nil, Nat.reduceAdd, Nat.reduceSub, Array.replicate_succ, Array.replicate_zero, List.push_toArray, List.append_toArray, List.nil_append, List.cons_append]
  apply wpS_seq
  apply wpS_region
  simp [wpOpsS, go_sem, recoverD, hu, Exit.thenS, t1]
  apply wpS_seq
  apply wpS_region
  simp [wpOpsS, go_sem, Exit.thenS]
  refine wpS_cond (t := false) (by simp [Act.eval]) ?_
  simp only [Bool.false_eq_true, if_false]
  refine wpS_of_wp (wp_skip ?_)
  cases c₀
  simp_all [bodyPostS, results, Tryz.results121]

set_option maxRecDepth 100000 in
set_option maxHeartbeats 1000000 in
theorem flReadArg (f : Fl) (bank q n : Int) (h0 : bank ≠ 0) (h1 : bank ≠ 1) (W : World) :
    Calls Tryz.prog 93 #[.agg #[.string f.b0, .string f.b1, .int .i64 f.e0, .int .i64 f.e1, .int .i64 f.lim], .int .i64 bank, .int .i64 q, .int .i64 n] W fun e W' =>
      e = .returned (.tuple #[.string ⟨#[]⟩, .int .i64 1]) ∧ Below W.heap.size W W' := by
  have hmf : ∀ (fn : Fn) (first cap : Array Value) (w : World), (Instr.makeFunc fn first cap).run Tryz.prog w = .ok (.func fn first cap) w := fun _ _ _ _ => rfl
  go_enter_defers Tryz.func93, Tryz.ntmps93
  go_wp2_with fail
  have hB : Below W.heap.size W (W.alloc (.cells #[.string f.b0, .string f.b1, .int .i64 f.e0, .int .i64 f.e1, .int .i64 f.lim] 25)) := (Below.refl _ _).alloc (Nat.le_refl _) _
  have hz : (W.alloc (.cells #[.string f.b0, .string f.b1, .int .i64 f.e0, .int .i64 f.e1, .int .i64 f.lim] 25)).heap.size = W.heap.size + 1 := by simp
  generalize W.alloc (.cells #[.string f.b0, .string f.b1, .int .i64 f.e0, .int .i64 f.e1, .int .i64 f.lim] 25) = V1 at *
  have xs := (Box.new 9 V1 [.string ⟨#[]⟩]).alloc (.cells #[.int .i64 0] 32)
  have xe := Box.new 32 (V1.alloc (.cells #[.string ⟨#[]⟩] 9)) [.int .i64 0]
  replace hB := (hB.alloc hB.size (.cells #[.string ⟨#[]⟩] 9)).alloc (by simp; omega) (.cells #[.int .i64 0] 32)
  rw [show (V1.alloc (.cells #[.string ⟨#[]⟩] 9)).heap.size = W.heap.size + 1 + 1 from by simp [hz]] at xe
  rw [hz] at xs
  generalize (V1.alloc (.cells #[.string ⟨#[]⟩] 9)).alloc (.cells #[.int .i64 0] 32) = V2 at *
  refine (flWholeBad f bank V2 h0 h1).mono ?_
  rintro e V3 ⟨rfl, k⟩
  replace hB := below_seq hB k
  replace xs := xs.seq k
  replace xe := xe.seq k
  clear k
  go_wp2
  refine leaves_cons (f := 121) (args := #[.pointer (some ⟨W.heap.size + 1, 0, none⟩), .pointer (some ⟨W.heap.size + 1 + 1, 0, none⟩)]) (by simp) (by simp [go_sem]) ?_
  refine (catchThrown ⟨W.heap.size + 1, 0, none⟩ ⟨W.heap.size + 1 + 1, 0, none⟩ (by simp) _ _ 1 [] V3 (xs.cell 0 rfl) (xe.cell 0 rfl) (xs.frozen 0) (xe.frozen 0)).mono ?_
  rintro e u' w'' ⟨rfl, rfl, rfl⟩
  replace xs := (xs.set 0 (.string ⟨#[]⟩)).other (C := W.heap.size + 1 + 1) (by simp) 0 (.int .i64 1)
  replace xe := (xe.other (C := W.heap.size + 1) (by simp) 0 (.string ⟨#[]⟩)).set 0 (.int .i64 1)
  replace hB : Below W.heap.size W ((V3.setCell ⟨W.heap.size + 1, 0, none⟩ (.string ⟨#[]⟩)).setCell ⟨W.heap.size + 1 + 1, 0, none⟩ (.int .i64 1)) := (hB.setCell (by simp) _).setCell (by simp; omega) _
  generalize (V3.setCell ⟨W.heap.size + 1, 0, none⟩ (.string ⟨#[]⟩)).setCell ⟨W.heap.size + 1 + 1, 0, none⟩ (.int .i64 1) = V4 at *
  have xs0 := xs.cell 0 rfl
  have xe0 := xe.cell 0 rfl
  simp [Leaves, settle, results, Tryz.results93, go_sem, thrown, xs0, xe0, hB]

set_option maxRecDepth 100000 in
set_option maxHeartbeats 1000000 in
theorem flReadOut0 (f : Fl) (q n : Int) (hs : f.b0.size ≤ maxLen) (hq : q ≤ 9223372036854775807) (h : ¬ (0 ≤ q ∧ 0 ≤ n ∧ q + n ≤ f.b0.size)) (W : World) :
    Calls Tryz.prog 93 #[.agg #[.string f.b0, .string f.b1, .int .i64 f.e0, .int .i64 f.e1, .int .i64 f.lim], .int .i64 0, .int .i64 q, .int .i64 n] W fun e W' =>
      e = .returned (.tuple #[.string ⟨#[]⟩, .int .i64 2]) ∧ Below W.heap.size W W' := by
  have hmf : ∀ (fn : Fn) (first cap : Array Value) (w : World), (Instr.makeFunc fn first cap).run Tryz.prog w = .ok (.func fn first cap) w := fun _ _ _ _ => rfl
  go_enter_defers Tryz.func93, Tryz.ntmps93
  go_wp2_with fail
  have hB : Below W.heap.size W (W.alloc (.cells #[.string f.b0, .string f.b1, .int .i64 f.e0, .int .i64 f.e1, .int .i64 f.lim] 25)) := (Below.refl _ _).alloc (Nat.le_refl _) _
  have hz : (W.alloc (.cells #[.string f.b0, .string f.b1, .int .i64 f.e0, .int .i64 f.e1, .int .i64 f.lim] 25)).heap.size = W.heap.size + 1 := by simp
  generalize W.alloc (.cells #[.string f.b0, .string f.b1, .int .i64 f.e0, .int .i64 f.e1, .int .i64 f.lim] 25) = V1 at *
  have xs := (Box.new 9 V1 [.string ⟨#[]⟩]).alloc (.cells #[.int .i64 0] 32)
  have xe := Box.new 32 (V1.alloc (.cells #[.string ⟨#[]⟩] 9)) [.int .i64 0]
  replace hB := (hB.alloc hB.size (.cells #[.string ⟨#[]⟩] 9)).alloc (by simp; omega) (.cells #[.int .i64 0] 32)
  rw [show (V1.alloc (.cells #[.string ⟨#[]⟩] 9)).heap.size = W.heap.size + 1 + 1 from by simp [hz]] at xe
  rw [hz] at xs
  generalize (V1.alloc (.cells #[.string ⟨#[]⟩] 9)).alloc (.cells #[.int .i64 0] 32) = V2 at *
  refine (flWhole0 f V2).mono ?_
  rintro e V3 ⟨rfl, k⟩
  replace hB := below_seq hB k
  replace xs := xs.seq k
  replace xe := xe.seq k
  clear k
  go_wp2_with fail
  refine (flPartBad f.b0 q n V3 hs hq h).mono ?_
  rintro e V3 ⟨rfl, rfl⟩
  go_wp2
  refine leaves_cons (f := 121) (args := #[.pointer (some ⟨W.heap.size + 1, 0, none⟩), .pointer (some ⟨W.heap.size + 1 + 1, 0, none⟩)]) (by simp) (by simp [go_sem]) ?_
  refine (catchThrown ⟨W.heap.size + 1, 0, none⟩ ⟨W.heap.size + 1 + 1, 0, none⟩ (by simp) _ _ 2 [] V3 (xs.cell 0 rfl) (xe.cell 0 rfl) (xs.frozen 0) (xe.frozen 0)).mono ?_
  rintro e u' w'' ⟨rfl, rfl, rfl⟩
  replace xs := (xs.set 0 (.string ⟨#[]⟩)).other (C := W.heap.size + 1 + 1) (by simp) 0 (.int .i64 2)
  replace xe := (xe.other (C := W.heap.size + 1) (by simp) 0 (.string ⟨#[]⟩)).set 0 (.int .i64 2)
  replace hB : Below W.heap.size W ((V3.setCell ⟨W.heap.size + 1, 0, none⟩ (.string ⟨#[]⟩)).setCell ⟨W.heap.size + 1 + 1, 0, none⟩ (.int .i64 2)) := (hB.setCell (by simp) _).setCell (by simp; omega) _
  generalize (V3.setCell ⟨W.heap.size + 1, 0, none⟩ (.string ⟨#[]⟩)).setCell ⟨W.heap.size + 1 + 1, 0, none⟩ (.int .i64 2) = V4 at *
  have xs0 := xs.cell 0 rfl
  have xe0 := xe.cell 0 rfl
  simp [Leaves, settle, results, Tryz.results93, go_sem, thrown, xs0, xe0, hB]

set_option maxRecDepth 100000 in
set_option maxHeartbeats 1000000 in
theorem flReadOut1 (f : Fl) (q n : Int) (hs : f.b1.size ≤ maxLen) (hq : q ≤ 9223372036854775807) (h : ¬ (0 ≤ q ∧ 0 ≤ n ∧ q + n ≤ f.b1.size)) (W : World) :
    Calls Tryz.prog 93 #[.agg #[.string f.b0, .string f.b1, .int .i64 f.e0, .int .i64 f.e1, .int .i64 f.lim], .int .i64 1, .int .i64 q, .int .i64 n] W fun e W' =>
      e = .returned (.tuple #[.string ⟨#[]⟩, .int .i64 2]) ∧ Below W.heap.size W W' := by
  have hmf : ∀ (fn : Fn) (first cap : Array Value) (w : World), (Instr.makeFunc fn first cap).run Tryz.prog w = .ok (.func fn first cap) w := fun _ _ _ _ => rfl
  go_enter_defers Tryz.func93, Tryz.ntmps93
  go_wp2_with fail
  have hB : Below W.heap.size W (W.alloc (.cells #[.string f.b0, .string f.b1, .int .i64 f.e0, .int .i64 f.e1, .int .i64 f.lim] 25)) := (Below.refl _ _).alloc (Nat.le_refl _) _
  have hz : (W.alloc (.cells #[.string f.b0, .string f.b1, .int .i64 f.e0, .int .i64 f.e1, .int .i64 f.lim] 25)).heap.size = W.heap.size + 1 := by simp
  generalize W.alloc (.cells #[.string f.b0, .string f.b1, .int .i64 f.e0, .int .i64 f.e1, .int .i64 f.lim] 25) = V1 at *
  have xs := (Box.new 9 V1 [.string ⟨#[]⟩]).alloc (.cells #[.int .i64 0] 32)
  have xe := Box.new 32 (V1.alloc (.cells #[.string ⟨#[]⟩] 9)) [.int .i64 0]
  replace hB := (hB.alloc hB.size (.cells #[.string ⟨#[]⟩] 9)).alloc (by simp; omega) (.cells #[.int .i64 0] 32)
  rw [show (V1.alloc (.cells #[.string ⟨#[]⟩] 9)).heap.size = W.heap.size + 1 + 1 from by simp [hz]] at xe
  rw [hz] at xs
  generalize (V1.alloc (.cells #[.string ⟨#[]⟩] 9)).alloc (.cells #[.int .i64 0] 32) = V2 at *
  refine (flWhole1 f V2).mono ?_
  rintro e V3 ⟨rfl, k⟩
  replace hB := below_seq hB k
  replace xs := xs.seq k
  replace xe := xe.seq k
  clear k
  go_wp2_with fail
  refine (flPartBad f.b1 q n V3 hs hq h).mono ?_
  rintro e V3 ⟨rfl, rfl⟩
  go_wp2
  refine leaves_cons (f := 121) (args := #[.pointer (some ⟨W.heap.size + 1, 0, none⟩), .pointer (some ⟨W.heap.size + 1 + 1, 0, none⟩)]) (by simp) (by simp [go_sem]) ?_
  refine (catchThrown ⟨W.heap.size + 1, 0, none⟩ ⟨W.heap.size + 1 + 1, 0, none⟩ (by simp) _ _ 2 [] V3 (xs.cell 0 rfl) (xe.cell 0 rfl) (xs.frozen 0) (xe.frozen 0)).mono ?_
  rintro e u' w'' ⟨rfl, rfl, rfl⟩
  replace xs := (xs.set 0 (.string ⟨#[]⟩)).other (C := W.heap.size + 1 + 1) (by simp) 0 (.int .i64 2)
  replace xe := (xe.other (C := W.heap.size + 1) (by simp) 0 (.string ⟨#[]⟩)).set 0 (.int .i64 2)
  replace hB : Below W.heap.size W ((V3.setCell ⟨W.heap.size + 1, 0, none⟩ (.string ⟨#[]⟩)).setCell ⟨W.heap.size + 1 + 1, 0, none⟩ (.int .i64 2)) := (hB.setCell (by simp) _).setCell (by simp; omega) _
  generalize (V3.setCell ⟨W.heap.size + 1, 0, none⟩ (.string ⟨#[]⟩)).setCell ⟨W.heap.size + 1 + 1, 0, none⟩ (.int .i64 2) = V4 at *
  have xs0 := xs.cell 0 rfl
  have xe0 := xe.cell 0 rfl
  simp [Leaves, settle, results, Tryz.results93, go_sem, thrown, xs0, xe0, hB]

set_option maxRecDepth 100000 in
set_option maxHeartbeats 1000000 in
theorem flReadOk0 (f : Fl) (q n : Nat) (hs : f.b0.size ≤ maxLen) (h : q + n ≤ f.b0.size) (W : World) :
    Calls Tryz.prog 93 #[.agg #[.string f.b0, .string f.b1, .int .i64 f.e0, .int .i64 f.e1, .int .i64 f.lim], .int .i64 0, .int .i64 q, .int .i64 n] W fun e W' =>
      e = .returned (.tuple #[.string (f.b0.extract q (q + n)), .int .i64 0]) ∧ Below W.heap.size W W' := by
  have hmf : ∀ (fn : Fn) (first cap : Array Value) (w : World), (Instr.makeFunc fn first cap).run Tryz.prog w = .ok (.func fn first cap) w := fun _ _ _ _ => rfl
  go_enter_defers Tryz.func93, Tryz.ntmps93
  go_wp2_with fail
  have hB : Below W.heap.size W (W.alloc (.cells #[.string f.b0, .string f.b1, .int .i64 f.e0, .int .i64 f.e1, .int .i64 f.lim] 25)) := (Below.refl _ _).alloc (Nat.le_refl _) _
  have hz : (W.alloc (.cells #[.string f.b0, .string f.b1, .int .i64 f.e0, .int .i64 f.e1, .int .i64 f.lim] 25)).heap.size = W.heap.size + 1 := by simp
  generalize W.alloc (.cells #[.string f.b0, .string f.b1, .int .i64 f.e0, .int .i64 f.e1, .int .i64 f.lim] 25) = V1 at *
  have xs := (Box.new 9 V1 [.string ⟨#[]⟩]).alloc (.cells #[.int .i64 0] 32)
  have xe := Box.new 32 (V1.alloc (.cells #[.string ⟨#[]⟩] 9)) [.int .i64 0]
  replace hB := (hB.alloc hB.size (.cells #[.string ⟨#[]⟩] 9)).alloc (by simp; omega) (.cells #[.int .i64 0] 32)
  rw [show (V1.alloc (.cells #[.string ⟨#[]⟩] 9)).heap.size = W.heap.size + 1 + 1 from by simp [hz]] at xe
  rw [hz] at xs
  generalize (V1.alloc (.cells #[.string ⟨#[]⟩] 9)).alloc (.cells #[.int .i64 0] 32) = V2 at *
  refine (flWhole0 f V2).mono ?_
  rintro e V3 ⟨rfl, k⟩
  replace hB := below_seq hB k
  replace xs := xs.seq k
  replace xe := xe.seq k
  clear k
  go_wp2_with fail
  refine (flPart f.b0 q n V3 hs h).mono ?_
  rintro e V3 ⟨rfl, rfl⟩
  have xs0 := xs.cell 0 rfl
  have xe0 := xe.cell 0 rfl
  have xs1 := xs.frozen 0
  have xe1 := xe.frozen 0
  have xe2 := (xe.other (C := W.heap.size + 1) (by simp) 0 (.string (f.b0.extract q (q + n)))).cell 0 rfl
  go_wp2
  refine leaves_cons (f := 121) (args := #[.pointer (some ⟨W.heap.size + 1, 0, none⟩), .pointer (some ⟨W.heap.size + 1 + 1, 0, none⟩)]) (by simp) (by simp [go_sem]) ?_
  refine (catchIdle ⟨W.heap.size + 1, 0, none⟩ ⟨W.heap.size + 1 + 1, 0, none⟩ _).mono ?_
  rintro e u' w'' ⟨rfl, rfl, rfl⟩
  clear xs0 xe0 xs1 xe1 xe2
  replace xs := (xs.set 0 (.string (f.b0.extract q (q + n)))).other (C := W.heap.size + 1 + 1) (by simp) 0 (.int .i64 0)
  replace xe := (xe.other (C := W.heap.size + 1) (by simp) 0 (.string (f.b0.extract q (q + n)))).set 0 (.int .i64 0)
  replace hB : Below W.heap.size W ((V3.setCell ⟨W.heap.size + 1, 0, none⟩ (.string (f.b0.extract q (q + n)))).setCell ⟨W.heap.size + 1 + 1, 0, none⟩ (.int .i64 0)) := (hB.setCell (by simp) _).setCell (by simp; omega) _
  generalize (V3.setCell ⟨W.heap.size + 1, 0, none⟩ (.string (f.b0.extract q (q + n)))).setCell ⟨W.heap.size + 1 + 1, 0, none⟩ (.int .i64 0) = V4 at *
  have xs0 := xs.cell 0 rfl
  have xe0 := xe.cell 0 rfl
  simp [Leaves, settle, results, Tryz.results93, go_sem, xs0, xe0, hB]

set_option maxRecDepth 100000 in
set_option maxHeartbeats 1000000 in
theorem flReadOk1 (f : Fl) (q n : Nat) (hs : f.b1.size ≤ maxLen) (h : q + n ≤ f.b1.size) (W : World) :
    Calls Tryz.prog 93 #[.agg #[.string f.b0, .string f.b1, .int .i64 f.e0, .int .i64 f.e1, .int .i64 f.lim], .int .i64 1, .int .i64 q, .int .i64 n] W fun e W' =>
      e = .returned (.tuple #[.string (f.b1.extract q (q + n)), .int .i64 0]) ∧ Below W.heap.size W W' := by
  have hmf : ∀ (fn : Fn) (first cap : Array Value) (w : World), (Instr.makeFunc fn first cap).run Tryz.prog w = .ok (.func fn first cap) w := fun _ _ _ _ => rfl
  go_enter_defers Tryz.func93, Tryz.ntmps93
  go_wp2_with fail
  have hB : Below W.heap.size W (W.alloc (.cells #[.string f.b0, .string f.b1, .int .i64 f.e0, .int .i64 f.e1, .int .i64 f.lim] 25)) := (Below.refl _ _).alloc (Nat.le_refl _) _
  have hz : (W.alloc (.cells #[.string f.b0, .string f.b1, .int .i64 f.e0, .int .i64 f.e1, .int .i64 f.lim] 25)).heap.size = W.heap.size + 1 := by simp
  generalize W.alloc (.cells #[.string f.b0, .string f.b1, .int .i64 f.e0, .int .i64 f.e1, .int .i64 f.lim] 25) = V1 at *
  have xs := (Box.new 9 V1 [.string ⟨#[]⟩]).alloc (.cells #[.int .i64 0] 32)
  have xe := Box.new 32 (V1.alloc (.cells #[.string ⟨#[]⟩] 9)) [.int .i64 0]
  replace hB := (hB.alloc hB.size (.cells #[.string ⟨#[]⟩] 9)).alloc (by simp; omega) (.cells #[.int .i64 0] 32)
  rw [show (V1.alloc (.cells #[.string ⟨#[]⟩] 9)).heap.size = W.heap.size + 1 + 1 from by simp [hz]] at xe
  rw [hz] at xs
  generalize (V1.alloc (.cells #[.string ⟨#[]⟩] 9)).alloc (.cells #[.int .i64 0] 32) = V2 at *
  refine (flWhole1 f V2).mono ?_
  rintro e V3 ⟨rfl, k⟩
  replace hB := below_seq hB k
  replace xs := xs.seq k
  replace xe := xe.seq k
  clear k
  go_wp2_with fail
  refine (flPart f.b1 q n V3 hs h).mono ?_
  rintro e V3 ⟨rfl, rfl⟩
  have xs0 := xs.cell 0 rfl
  have xe0 := xe.cell 0 rfl
  have xs1 := xs.frozen 0
  have xe1 := xe.frozen 0
  have xe2 := (xe.other (C := W.heap.size + 1) (by simp) 0 (.string (f.b1.extract q (q + n)))).cell 0 rfl
  go_wp2
  refine leaves_cons (f := 121) (args := #[.pointer (some ⟨W.heap.size + 1, 0, none⟩), .pointer (some ⟨W.heap.size + 1 + 1, 0, none⟩)]) (by simp) (by simp [go_sem]) ?_
  refine (catchIdle ⟨W.heap.size + 1, 0, none⟩ ⟨W.heap.size + 1 + 1, 0, none⟩ _).mono ?_
  rintro e u' w'' ⟨rfl, rfl, rfl⟩
  clear xs0 xe0 xs1 xe1 xe2
  replace xs := (xs.set 0 (.string (f.b1.extract q (q + n)))).other (C := W.heap.size + 1 + 1) (by simp) 0 (.int .i64 0)
  replace xe := (xe.other (C := W.heap.size + 1) (by simp) 0 (.string (f.b1.extract q (q + n)))).set 0 (.int .i64 0)
  replace hB : Below W.heap.size W ((V3.setCell ⟨W.heap.size + 1, 0, none⟩ (.string (f.b1.extract q (q + n)))).setCell ⟨W.heap.size + 1 + 1, 0, none⟩ (.int .i64 0)) := (hB.setCell (by simp) _).setCell (by simp; omega) _
  generalize (V3.setCell ⟨W.heap.size + 1, 0, none⟩ (.string (f.b1.extract q (q + n)))).setCell ⟨W.heap.size + 1 + 1, 0, none⟩ (.int .i64 0) = V4 at *
  have xs0 := xs.cell 0 rfl
  have xe0 := xe.cell 0 rfl
  simp [Leaves, settle, results, Tryz.results93, go_sem, xs0, xe0, hB]

theorem flRead (f : Fl) (bank q n : Int) (W : World) (hf : f.fit) (hq : q ≤ 9223372036854775807 := by omega) :
    Calls Tryz.prog 93 #[.agg #[.string f.b0, .string f.b1, .int .i64 f.e0, .int .i64 f.e1, .int .i64 f.lim], .int .i64 bank, .int .i64 q, .int .i64 n] W fun e W' =>
      e = .returned (.tuple #[.string (readT f bank q n), .int .i64 (readErr f bank q n)]) ∧ Below W.heap.size W W' := by
  by_cases h : bank ≠ 0 ∧ bank ≠ 1
  · have e1 : readErr f bank q n = 1 := if_pos h
    have e2 : readT f bank q n = ⟨#[]⟩ := if_neg (by rw [e1]; decide)
    rw [e1, e2]
    exact flReadArg f bank q n h.1 h.2 W
  · have hb : bank = 0 ∨ bank = 1 := by omega
    by_cases k : 0 ≤ q ∧ 0 ≤ n ∧ q + n ≤ (f.bank bank).size
    · have e1 : readErr f bank q n = 0 := by unfold readErr; rw [if_neg h, if_pos k]
      have e2 : readT f bank q n = (f.bank bank).extract q.toNat (q + n).toNat := if_pos e1
      rw [e1, e2]
      obtain ⟨k1, k2, k3⟩ := k
      obtain ⟨a, rfl⟩ := Int.eq_ofNat_of_zero_le k1
      obtain ⟨b, rfl⟩ := Int.eq_ofNat_of_zero_le k2
      rw [show ((a : Int) + (b : Int)).toNat = a + b from by omega, Int.toNat_natCast]
      rcases hb with rfl | rfl
      · exact flReadOk0 f a b hf.ok.s0 (by have e : f.bank 0 = f.b0 := rfl; rw [e] at k3; omega) W
      · exact flReadOk1 f a b hf.ok.s1 (by have e : f.bank 1 = f.b1 := rfl; rw [e] at k3; omega) W
    · have e1 : readErr f bank q n = 2 := by unfold readErr; rw [if_neg h, if_neg k]
      have e2 : readT f bank q n = ⟨#[]⟩ := if_neg (by rw [e1]; decide)
      rw [e1, e2]
      rcases hb with rfl | rfl
      · exact flReadOut0 f q n hf.ok.s0 hq k W
      · exact flReadOut1 f q n hf.ok.s1 hq k W
end Go.Proofs.YthmpjoiifglbjaaGreat

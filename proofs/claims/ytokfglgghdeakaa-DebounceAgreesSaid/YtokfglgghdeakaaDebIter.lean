/- The program's iterator over counts: contracts only. -/
import Derived.Test.YtokfglgghdeakaaDebSeq
import Derived.Test.YtokfglgghdeakaaDebOwnA
import Derived.RangeFuncNested
import Derived.RangeFuncBound
import Derived.RangeFuncCalls
import Derived.RangeFuncLeaves
import Derived.Shelf.Abstract
import Derived.Shelf.RegionOpen
import Derived.WalkKit
import Derived.OwnWalkIn
import Derived.TacticsInMore
import Derived.LoopNIn
import Derived.LoopIn
import Derived.Stop.RegionWithIn
import Derived.Lib.Hide
import Derived.ProofKit
namespace Go.Proofs.Ytokfglgghdeakaa
open Go.RowKit Go.Shelf
set_option linter.unusedVariables false
set_option linter.unusedSimpArgs false
attribute [local go_sem] Oper.semAt_some

/-- What becomes of a count, vote by vote. -/
def countsD (c : Ct) : List Int → List Ct
  | [] => []
  | v :: l => addD c v :: countsD (addD c v) l
theorem countsD_snoc (c : Ct) (l : List Int) (v : Int) : countsD c (l ++ [v]) = countsD c l ++ [addD (allD c l) v] := by
  induction l generalizing c with
  | nil => rfl
  | cons a l ih => show addD c a :: countsD (addD c a) (l ++ [v]) = _; rw [ih]; rfl
theorem countsD_len (c : Ct) (l : List Int) : (countsD c l).length = l.length := by
  induction l generalizing c with
  | nil => rfl
  | cons a l ih => show (countsD (addD c a) l).length + 1 = _; rw [ih]; rfl
theorem countsD_last (c : Ct) (l : List Int) : (countsD c l).getLastD c = allD c l := by
  induction l generalizing c with
  | nil => rfl
  | cons a l ih => show (addD c a :: countsD (addD c a) l).getLastD c = _; rw [List.getLastD_cons, ih]; rfl
theorem countsD_take (c : Ct) {l : List Int} {k : Nat} {v : Int} (h : l[k]? = some v) : countsD c (l.take (k + 1)) = countsD c (l.take k) ++ [addD (allD c (l.take k)) v] := by
  rw [List.take_add_one, h]; exact countsD_snoc _ _ _
/-- Numbers that lie below block m. -/
def IntsIn (m : Nat) (W : World) (A : Option Addr) (l : List Int) : Prop := ∀ k v, l[k]? = some v → ∃ g off, A = some ⟨g, off, none⟩ ∧ g < m ∧ W.cell? ⟨g, off + k, none⟩ = some (.int .i64 v)
theorem ints_in {W : World} {A : Option Addr} {l : List Int} (h : IntsAt W A l) : IntsIn W.heap.size W A l := fun k v hk => by
  obtain ⟨g, off, e, hg, hc⟩ := h (by have := (List.getElem?_eq_some_iff.1 hk).1; omega)
  exact ⟨g, off, e, hg, hc k v hk⟩
theorem IntsIn.same {m : Nat} {W V : World} {A : Option Addr} {l : List Int} (h : IntsIn m W A l) (hV : ∀ k, k < m → V.heap[k]? = W.heap[k]?) : IntsIn m V A l := fun k v hk => by
  obtain ⟨g, off, e, hg, hc⟩ := h k v hk
  exact ⟨g, off, e, hg, (World.cell?_of_block (a := ⟨g, off + k, none⟩) (hV g hg)).trans hc⟩
theorem Box.same {t : TypeId} {W V : World} {B : Nat} {vs : List Value} (h : Box t W B vs) (hV : V.heap[B]? = W.heap[B]?) : Box t V B vs := hV.trans h

set_option maxRecDepth 100000 in
set_option maxHeartbeats 4000000 in
theorem counts_any (c : Ct) (l : List Int) (A : Option Addr) (c' : Nat) (W : World) :
    Calls Try.prog 16 #[.agg #[.int .i64 c.vote, .int .i64 c.n], .slice A l.length c'] W fun e W' =>
      e = .returned (.func (.func 17) #[] #[.pointer (some ⟨W.heap.size, 0, none⟩), .pointer (some ⟨W.heap.size + 1, 0, none⟩)]) ∧
      W' = (W.alloc (.cells #[.int .i64 c.vote, .int .i64 c.n] 23)).alloc (.cells #[.slice A l.length c'] 24) := by
  go_enter Try.func16, Try.ntmps16
  go_wp2
  go_ret
  exact ⟨by simp, rfl⟩

set_option maxRecDepth 100000 in
set_option maxHeartbeats 4000000 in
theorem counts_tells (n : Nat) (hn : 2 ≤ n) (m B : Nat) (c : Ct) (l : List Int) (A : Option Addr) (c' : Nat) (hlen : l.length ≤ maxLen) (w0 : World)
    (b0 : Box 23 w0 B [.int .i64 c.vote, .int .i64 c.n]) (b1 : Box 24 w0 (B + 1) [.slice A l.length c']) (hm : m ≤ w0.heap.size) (hl : IntsIn m w0 A l) :
    Tells Fence.wide n Try.prog 17 #[.pointer (some ⟨B, 0, none⟩), .pointer (some ⟨B + 1, 0, none⟩)] (fun x : Ct => #[.agg #[.int .i64 x.vote, .int .i64 x.n]]) m (fun ys => ys = countsD c l) l.length w0 := by
  intro lp J W hW hJ hY h0
  have h1 : 1 ≤ n := by omega
  unfold maxLen at hlen
  replace hl := Lib.hid (hl.same (fun k hk => hW.block k (by omega)))
  have hmW : m ≤ W.heap.size := Nat.le_trans hm hW.size
  have d0 := (b0.below hW b0.lt).f2
  have d1 := (b1.below hW b1.lt).f1
  have d2 := fun o : Obj => ((b1.below hW b1.lt).alloc o).f1
  have bc := Box.new 23 W [.int .i64 c.vote, .int .i64 c.n]
  have hJW := hJ _ _ _ h0 ((Below.refl _ W).alloc (Nat.le_refl _) (.cells #[.int .i64 c.vote, .int .i64 c.n] 23))
  have hap : Apart m W.heap.size W (W.alloc (.cells #[.int .i64 c.vote, .int .i64 c.n] 23)) := ⟨by simp, fun k hk _ => Below.heap_alloc _ _ _ hk⟩
  clear b0 b1 hW h0 hm
  refine callsIn_of_wp Try.func17 rfl trivial ?_ rfl
  simp only [Try.ntmps17, List.size_toArray, List.length_cons, List.length_nil, Nat.reduceAdd, Nat.reduceSub, Array.replicate_succ, Array.replicate_zero, List.push_toArray, List.append_toArray, List.nil_append, List.cons_append]
  gi_wp2
  clear d0 d1 d2
  have HS0 : ∀ b, b < m → (W.alloc (.cells #[.int .i64 c.vote, .int .i64 c.n] 23)).heap[b]? = W.heap[b]? := fun b hb => hap.2 b (by omega) (.inl hb)
  clear hap
  gi_loopw [10] (fun i wr => ∃ (k : Nat) (x : Ct), k ≤ l.length ∧ i = .int .i64 k ∧ allD c (l.take k) = x ∧ Box 23 wr W.heap.size [.int .i64 x.vote, .int .i64 x.n] ∧ J (countsD c (l.take k)) wr ∧ ∀ b, b < m → wr.heap[b]? = W.heap[b]?)
    (fun i _ => l.length - (intOf i).toNat)
  case atStart => exact ⟨0, c, Nat.zero_le _, rfl, rfl, bc, hJW, HS0⟩
  case round =>
    clear bc hJW HS0
    obtain ⟨k, x, hk, rfl, hx, bx, hJs, hS⟩ := hrel
    by_cases hlt : k < l.length
    · obtain ⟨v, hv⟩ : ∃ v, l[k]? = some v := ⟨_, List.getElem?_eq_getElem hlt⟩
      obtain ⟨g, off, rfl, hg, HC⟩ := (hl.out.same hS) k v hv
      have hst := Lib.hid (countsD_take c hv)
      have hxt := Lib.hid (allD_take (c := c) hv)
      rw [hx] at hst hxt
      have hpl : (countsD c (l.take k)).length < l.length := by rw [countsD_len, List.length_take]; omega
      have TA := Lib.hid (fun (V : World) => own18Add x v V)
      generalize addD x v = y at *
      have dx := bx.f2
      have HP := Lib.hid hpl
      have HY := Lib.hid hY
      have HJ := Lib.hid hJ
      have j0 : (0 : Int) ≤ (k : Int) := by omega
      have j1 : (k : Int) < (l.length : Int) := by omega
      have j2 : ¬ 9223372036854775807 < (k : Int) + 1 := by omega
      clear hY hv hl hx hpl hJ hlt
      gi_wp2_with (first
        | (refine ⟨trivial, ?_⟩; gi_at_call 8; refine (callsIn_wide.2 (TA.out _)).mono ?_; rintro e V ⟨rfl, hk2⟩
           have bV := bx.seq hk2
           have bY : Box 23 ((V.setCell ⟨W.heap.size, 0, none⟩ (.int .i64 y.vote)).setCell ⟨W.heap.size, 1, none⟩ (.int .i64 y.n)) W.heap.size [.int .i64 y.vote, .int .i64 y.n] := (bV.set 0 _).set 1 _
           have hJ2 := HJ.out _ _ _ (HJ.out _ _ _ hJs (hk2.mono (Nat.le_of_lt bx.lt))) (((Below.refl W.heap.size V).setCell (p := ⟨W.heap.size, 0, none⟩) (Nat.le_refl _) (.int .i64 y.vote)).setCell (p := ⟨W.heap.size, 1, none⟩) (Nat.le_refl _) (.int .i64 y.n))
           have hS2 : ∀ b, b < m → (((V.setCell ⟨W.heap.size, 0, none⟩ (.int .i64 y.vote)).setCell ⟨W.heap.size, 1, none⟩ (.int .i64 y.n))).heap[b]? = W.heap[b]? := fun b hb => (Below.heap_setCell _ _ _ _ (show b ≠ W.heap.size by omega)).trans ((Below.heap_setCell _ _ _ _ (show b ≠ W.heap.size by omega)).trans ((hk2.block b (by have := bx.lt; omega)).trans (hS b hb)))
           have hyz := HY.out _ y _ hJ2 HP.out
           have dV := bV.f2
           have dY := bY.f2
           obtain ⟨fn, tmps, assign, body, hy, hR⟩ := hyz
           have HS2 := Lib.hid hS2
           have BY := Lib.hid bY
           clear hk2 bV bY hJ2 hS hS2 bx dx hJs)
        | fail)
      refine hR.mono ?_
      rintro e W3 ⟨rfl, hJ3, hA3⟩
      clear hR
      gi_wp2
      go_roundw
      case rel => exact ⟨k + 1, y, by omega, by simp, hxt.out, BY.out.same (hA3.2 _ BY.out.lt (.inr (Nat.le_refl _))), by rw [hst.out]; exact hJ3, fun b hb => (hA3.2 b (Nat.lt_trans (by omega : b < W.heap.size) BY.out.lt) (.inl hb)).trans (HS2.out b hb)⟩
      case measure => simp [intOf]; omega
    · obtain rfl : k = l.length := by omega
      rw [List.take_length] at hJs
      clear hl hS hx
      gi_wp2
      go_end0
      exact ⟨⟨_, rfl⟩, _, rfl, hJs⟩

end Go.Proofs.Ytokfglgghdeakaa

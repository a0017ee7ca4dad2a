/- The iterator that the program goes through its places by, and its maker: contracts only. -/
import Derived.RangeFuncNested
import Derived.RangeFuncBound
import Derived.RangeFuncCalls
import Derived.RangeFuncLeaves
import Derived.Shelf.Abstract
import Derived.Shelf.RegionOpen
import Derived.WalkKit
import Derived.OwnWalkIn
import Derived.TacticsInMore
import Derived.LoopNIn
import Derived.LoopIn
import Derived.Stop.RegionWithIn
import Derived.Deep.RegionHeld3
import Derived.Test.YthmpjoiifglbjaaGreatRef
namespace Go.Proofs.YthmpjoiifglbjaaGreat
open Go.RowKit Go.Shelf
set_option linter.unusedVariables false
attribute [local go_sem] b8_and b8_or b8_andNot gdI_255 gdI_0 Oper.semAt_some

/-- The three boxes from B on lie as they lay. -/
def KeepsAt (B : Nat) (W W' : World) : Prop := ∀ b, B ≤ b → b < B + 3 → W'.heap[b]? = W.heap[b]?
theorem KeepsAt.refl (B : Nat) (W : World) : KeepsAt B W W := fun _ _ _ => rfl
theorem KeepsAt.trans {B : Nat} {X Y Z : World} (h : KeepsAt B X Y) (k : KeepsAt B Y Z) : KeepsAt B X Z := fun b h1 h2 => (k b h1 h2).trans (h b h1 h2)
theorem KeepsAt.putObj {B : Nat} {w : World} (hB : B + 3 ≤ w.heap.size) (W : World) (l : Nat) (o o' : Obj) (hl : w.heap.size ≤ l) (_ : W.heap[l]? = some o) (_ : o.isCells = false) (_ : o.isWalk = false) : KeepsAt B W (W.putObj l o') :=
  fun b _ h2 => World.putObj_heap_other (by omega)
theorem KeepsAt.box {B : Nat} {W W' : World} (h : KeepsAt B W W') {b : Nat} {t : TypeId} {v : Value} (h1 : B ≤ b) (h2 : b < B + 3) (hb : Boxed W b t v) : Boxed W' b t v := (h b h1 h2).trans hb

/-- What the iterator hands out at a place. -/
def encP (o w m : ByteArray) (x : Fin o.size) : Array Value :=
  #[.int .i64 ((x.1 : Nat) : Int), .agg #[.int .u8 ((o[x.1]'x.2).toNat : Int), .int .u8 ((gd (bl w) x.1 255).toNat : Int), .int .u8 ((gd (bl m) x.1 0).toNat : Int)]]

/-- The places that have come when k rounds are over. -/
def pl (n k : Nat) : List (Fin n) := (List.finRange n).take k
theorem pl_zero (n : Nat) : pl n 0 = [] := rfl
theorem pl_all (n : Nat) : pl n n = List.finRange n := List.take_of_length_le (by simp)
theorem pl_succ (n k : Nat) (h : k < n) : pl n (k + 1) = pl n k ++ [⟨k, h⟩] := by
  unfold pl
  rw [List.take_succ_eq_append_getElem (by simpa using h)]
  simp
theorem pl_length (n k : Nat) (h : k ≤ n) : (pl n k).length = k := by simp [pl]; omega

set_option maxHeartbeats 1000000 in
theorem places_any (o w m : ByteArray) (W : World) :
    Calls Tryz.prog 95 #[.string o, .string w, .string m] W fun e W' =>
      e = .returned (.func (.func 124) #[] #[.pointer (some ⟨W.heap.size, 0, none⟩), .pointer (some ⟨W.heap.size + 1, 0, none⟩), .pointer (some ⟨W.heap.size + 1 + 1, 0, none⟩)]) ∧
      W' = ((W.alloc (.cells #[.string o] 9)).alloc (.cells #[.string w] 9)).alloc (.cells #[.string m] 9) := by
  go_enter Tryz.func95, Tryz.ntmps95
  go_wp2
  go_ret
  exact ⟨by simp, rfl⟩

set_option maxRecDepth 100000 in
set_option maxHeartbeats 2000000 in
theorem places_stops (n : Nat) (hn : 2 ≤ n) (B : Nat) (o w m : ByteArray) (ho : o.size ≤ 140737488351232) (hw : w.size ≤ maxLen) (hm : m.size ≤ maxLen)
    (w0 : World) (b0 : Boxed w0 B 9 (.string o)) (b1 : Boxed w0 (B + 1) 9 (.string w)) (b2 : Boxed w0 (B + 1 + 1) 9 (.string m)) :
    SeqStopsK Fence.wide n Tryz.prog 124 #[.pointer (some ⟨B, 0, none⟩), .pointer (some ⟨B + 1, 0, none⟩), .pointer (some ⟨B + 1 + 1, 0, none⟩)]
      (encP o w m) (KeepsAt B) (fun ys => ys = List.finRange o.size) (fun _ => True) o.size w0 := by
  intro l J Jx W hW hJ hJx hY h0
  have hlt2 := b2.lt
  have h1 : 1 ≤ n := by omega
  have k0 : KeepsAt B w0 W := fun b h1 h2 => hW.block b (by omega)
  unfold maxLen at hw hm
  refine callsIn_of_wp Tryz.func124 rfl trivial ?_ rfl
  simp only [Tryz.ntmps124, List.size_toArray, List.length_cons, List.length_nil, Nat.reduceAdd, Nat.reduceSub, Array.replicate_succ, Array.replicate_zero, List.push_toArray, List.append_toArray, List.nil_append, List.cons_append]
  have c0 := (k0.box (b := B) (by omega) (by omega) b0).cell
  gi_wp2
  gi_loopw [9] (fun i wr => ∃ k : Nat, k ≤ o.size ∧ i = .int .i64 k ∧ J (pl o.size k) wr ∧ KeepsAt B w0 wr)
    (fun i _ => o.size - (intOf i).toNat)
  case atStart => exact ⟨0, Nat.zero_le _, rfl, h0, k0⟩
  case round =>
    obtain ⟨k, hk, rfl, hJs, hK⟩ := hrel
    have hbz := (hK.box (b := B + 1 + 1) (by omega) (by omega) b2).lt
    clear c0
    by_cases hlt : k < o.size
    · have c0 := (hK.box (b := B) (by omega) (by omega) b0).cell
      have c1 := (hK.box (b := B + 1) (by omega) (by omega) b1).cell
      have c2 := (hK.box (b := B + 1 + 1) (by omega) (by omega) b2).cell
      gi_wp2
      refine wpIn_wide.2 ?_
      refine Code.wp_mono (Q := fun e a' w' => e = Exit.normal ∧ a' = { tmps := #[.func (.yield l) #[] #[], .pointer (some ⟨B, 0, none⟩), .pointer (some ⟨B + 1, 0, none⟩), .pointer (some ⟨B + 1 + 1, 0, none⟩), undef, .int .i64 k, .pointer (some ⟨wr.heap.size, 0, none⟩), .string o, .int .i64 o.size, .int .i64 k, .bool true, .int .i64 k, .string o, .int .i64 k, .int .u8 (o[k].toNat : Int), .string w, .int .i64 k, .int .u8 ((gd (bl w) k 255).toNat : Int), .string m, .int .i64 k, .int .u8 ((gd (bl m) k 0).toNat : Int), .agg #[.int .u8 (o[k].toNat : Int), .int .u8 ((gd (bl w) k 255).toNat : Int), .int .u8 ((gd (bl m) k 0).toNat : Int)], u22, u23, u24, u25, u26, u27], defers := [] } ∧
        w' = ((wr.alloc (.cells #[.int .u8 (o[k].toNat : Int), .int .u8 ((gd (bl w) k 255).toNat : Int), .int .u8 ((gd (bl m) k 0).toNat : Int)] 159)).drew)) ?_ ?_
      · rintro e a' w' ⟨rfl, rfl, rfl⟩
        have hJ2 : J (pl o.size k) ((wr.alloc (.cells #[.int .u8 (o[k].toNat : Int), .int .u8 ((gd (bl w) k 255).toNat : Int), .int .u8 ((gd (bl m) k 0).toNat : Int)] 159)).drew) :=
          hJ _ wr _ none hJs ⟨rfl, rfl, rfl, by simp, fun b h _ => Below.heap_alloc wr _ b h⟩ (fun r e => by cases e)
        have hK2 : KeepsAt B w0 ((wr.alloc (.cells #[.int .u8 (o[k].toNat : Int), .int .u8 ((gd (bl w) k 255).toNat : Int), .int .u8 ((gd (bl m) k 0).toNat : Int)] 159)).drew) := hK.trans (fun b h1 h2 => Below.heap_alloc wr _ b (by omega))
        obtain ⟨fn, tmps, assign, body, hy, hR⟩ := hY (pl o.size k) ⟨k, hlt⟩ _ hJ2 (by rw [pl_length _ _ hk]; exact hlt)
        dsimp only [encP] at hy
        gi_wp2
        refine hR.mono ?_
        rintro e W3 (⟨rfl, hJ3, hk3⟩ | ⟨rfl, hJx3⟩)
        · gi_wp2
          go_roundw
          case rel => exact ⟨k + 1, by omega, by simp, by rw [pl_succ _ _ hlt]; exact hJ3, hK2.trans hk3⟩
          case measure => simp [intOf]; omega
        · gi_wp2
          refine bodyPost_ret (results_none rfl _ _ _) rfl ?_
          exact ⟨⟨_, rfl⟩, .inr ⟨_, trivial, hJx3⟩⟩
      · go_region_held3 (fun w' => w'.cell? ⟨B, 0, none⟩ = some (.string o) ∧ w'.cell? ⟨B + 1, 0, none⟩ = some (.string w) ∧ w'.cell? ⟨B + 1 + 1, 0, none⟩ = some (.string m)) (go_keep)
          (first | (go_at_call 125; refine (byteAt_any _ _ _ _ (by unfold maxLen; omega) (by unfold maxLen; omega)).mono ?_; rintro e w' ⟨rfl, rfl⟩))
        all_goals exact ⟨rfl, rfl, rfl⟩
    · obtain rfl : k = o.size := by omega
      gi_wp2
      go_end0
      exact ⟨⟨_, rfl⟩, .inl ⟨_, rfl, by rw [← pl_all]; exact hJs⟩⟩
end Go.Proofs.YthmpjoiifglbjaaGreat

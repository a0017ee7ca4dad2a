/- The iterator that the program goes through its places by, and its maker: contracts only. -/
import Derived.RangeFuncNested
import Derived.RangeFuncBound
import Derived.RangeFuncCalls
import Derived.RangeFuncLeaves
import Derived.Shelf.Abstract
import Derived.Shelf.RegionOpen
import Derived.WalkKit
import Derived.OwnWalkIn
import Derived.TacticsInMore
import Derived.LoopNIn
import Derived.LoopIn
import Derived.Stop.RegionWithIn
import Derived.Deep.RegionHeld3
import Derived.Test.YtoemjfjmpmngeadRef
namespace Go.Proofs.Ytoemjfjmpmngead
open Go.RowKit Go.Shelf
set_option linter.unusedVariables false
attribute [local go_sem] b8_and b8_or b8_andNot gdI_255 gdI_0 Oper.semAt_some

/-- The three boxes from B on lie as they lay. -/
def KeepsAt (B : Nat) (W W' : World) : Prop := ∀ b, B ≤ b → b < B + 3 → W'.heap[b]? = W.heap[b]?
theorem KeepsAt.refl (B : Nat) (W : World) : KeepsAt B W W := fun _ _ _ => rfl
theorem KeepsAt.trans {B : Nat} {X Y Z : World} (h : KeepsAt B X Y) (k : KeepsAt B Y Z) : KeepsAt B X Z := fun b h1 h2 => (k b h1 h2).trans (h b h1 h2)
theorem KeepsAt.putObj {B : Nat} {w : World} (hB : B + 3 ≤ w.heap.size) (W : World) (l : Nat) (o o' : Obj) (hl : w.heap.size ≤ l) (_ : W.heap[l]? = some o) (_ : o.isCells = false) (_ : o.isWalk = false) : KeepsAt B W (W.putObj l o') :=
  fun b _ h2 => World.putObj_heap_other (by omega)
theorem KeepsAt.box {B : Nat} {W W' : World} (h : KeepsAt B W W') {b : Nat} {t : TypeId} {v : Value} (h1 : B ≤ b) (h2 : b < B + 3) (hb : Boxed W b t v) : Boxed W' b t v := (h b h1 h2).trans hb

/-- What the iterator hands out at a place. -/
def encP (o w m : ByteArray) (x : Fin o.size) : Array Value :=
  #[.int .i64 ((x.1 : Nat) : Int), .agg #[.int .u8 ((o[x.1]'x.2).toNat : Int), .int .u8 ((gd (bl w) x.1 255).toNat : Int), .int .u8 ((gd (bl m) x.1 0).toNat : Int)]]

/-- The places that have come when k rounds are over. -/
def pl (n k : Nat) : List (Fin n) := (List.finRange n).take k
theorem pl_zero (n : Nat) : pl n 0 = [] := rfl
theorem pl_all (n : Nat) : pl n n = List.finRange n := List.take_of_length_le (by simp)
theorem pl_succ (n k : Nat) (h : k < n) : pl n (k + 1) = pl n k ++ [⟨k, h⟩] := by
  unfold pl
  rw [List.take_succ_eq_append_getElem (by simpa using h)]
  simp
theorem pl_length (n k : Nat) (h : k ≤ n) : (pl n k).length = k := by simp [pl]; omega

end Go.Proofs.Ytoemjfjmpmngead

/- The iterator that the program goes through its places by, and its maker: contracts only. -/
import Derived.Test.YthmpjoiifglbjaaGreatRows
import Derived.WalkKit
import Derived.ProofKit
import Derived.OpenShut
import Derived.StillTailTactics
import Derived.BigQuiet
import Derived.Deep.QuietTactic
import Derived.Lib.Hide
import Derived.Maps.AppendAt
import Derived.Deep.RegionLaw
import Derived.Test.YthmpjoiifglbjaaGreatBase
import Derived.RangeFuncNested
import Derived.RangeFuncBound
import Derived.RangeFuncCalls
import Derived.RangeFuncLeaves
import Derived.Shelf.Abstract
import Derived.Shelf.RegionOpen
import Derived.OwnWalkIn
import Derived.TacticsInMore
import Derived.LoopNIn
import Derived.LoopIn
import Derived.Stop.RegionWithIn
import Derived.Deep.RegionHeld3
namespace Go.Proofs.YthmpjoiifglbjaaGreat
open Go.RowKit
set_option linter.unusedVariables false
attribute [local go_sem] b8_and b8_or b8_andNot gdI_255 gdI_0 b8_bit b8_bitand

theorem Tryz.info_u8 : (Tryz.prog.info? 5).map (fun i => (i.zero, i.size, i.bytes)) = some (some (.int .u8 0), 1, 1) := by kernel_rfl

/-- append to a row of the call's own, as one step of a region that draws its order. -/
theorem step_append_own {P : Program} {ops : Array Oper} {o : Oper} {a : Act} {w : World} {K : Act → World → Prop} {Q : Exit → Act → World → Prop} {E : Prop}
    (hg : o.guard = none) (s x : Operand) (t : TypeId) (ho : o.op = Op.call { callee := Callee.builtin Builtin.append, args := #[s, x], argTypes := #[t, t] })
    (base : Nat) (e : TypeId) (i : TypeInfo) (z : Value) (size bytes : Nat) (ht : P.underlying t = some (.slice e)) (hi : P.info? e = some i) (hz : i.zero = some z)
    (hsize : i.size = size) (hby : i.bytes = bytes) (hzs : z.cells.size = size) (hsz : 0 < size)
    (v : Value) (n : Nat) (xs : List Value) (hs : a.eval s = v) (hown : w.ownsRow base e size v n xs)
    (ad : Addr) (m c : Nat) (news : List Value) (hx : a.eval x = .slice (some ad) m c) (hl : news.length = m * size) (hnews : ∀ j u, news[j]? = some u → w.cell? (ad.add j) = some u) (h1 : ∀ u ∈ news, u.oneCell' = true)
    (h63 : n + m ≤ maxLen) (hbytes : (n + m) * bytes ≤ 140737488355328) (hbase : base ≤ w.heap.size)
    (h : ∀ v' w', w'.ownsRow base e size v' (n + m) (xs ++ news) → w.grownBy w' v.ownBlock → (v' = .slice none 0 0 ↔ v = .slice none 0 0 ∧ m = 0) → K (a.put o.dst v') w') :
    if Region.wanted o (yielded ops a.tmps) = true then Oper.wp P o a w K Q else E := by
  have hw : Region.wanted o (yielded ops a.tmps) = true := by simp [Region.wanted, hg]
  rw [if_pos hw]
  exact wp_append_own w s x t ho base e i z size bytes ht hi hz hsize hby hzs hsz v n xs hs hown ad m c news hx hl hnews h1 h63 hbytes hbase h

theorem at_any (s : ByteArray) (i : Nat) (d : Int) (w : World) (hs : s.size ≤ maxLen) (hi : i ≤ maxLen) :
    Calls Tryz.prog 99 #[.string s, .int .i64 i, .int .u8 d] w fun e w' => e = .returned (.int .u8 (gdI s i d)) ∧ w' = w := by
  unfold maxLen at hs hi
  by_cases h : i < s.size
  · have hg : gdI s i d = (s[i].toNat : Int) := dif_pos h
    rw [hg]; clear hg
    go_enter Tryz.func99, Tryz.ntmps99
    go_wp2
    go_ret
    exact ⟨rfl, rfl⟩
  · have hg : gdI s i d = d := dif_neg h
    rw [hg]; clear hg
    go_enter Tryz.func99, Tryz.ntmps99
    go_wp2
    go_ret
    exact ⟨rfl, rfl⟩

theorem byteAt_any (s : ByteArray) (i : Nat) (d : Int) (w : World) (hs : s.size ≤ maxLen) (hi : i ≤ maxLen) :
    Calls Tryz.prog 125 #[.string s, .int .i64 i, .int .u8 d] w fun e w' => e = .returned (.int .u8 (gdI s i d)) ∧ w' = w := by
  unfold maxLen at hs hi
  by_cases h : i < s.size
  · have hg : gdI s i d = (s[i].toNat : Int) := dif_pos h
    rw [hg]; clear hg
    go_enter Tryz.func125, Tryz.ntmps125
    go_wp2
    go_ret
    exact ⟨rfl, rfl⟩
  · have hg : gdI s i d = d := dif_neg h
    rw [hg]; clear hg
    go_enter Tryz.func125, Tryz.ntmps125
    go_wp2
    go_ret
    exact ⟨rfl, rfl⟩


set_option maxRecDepth 100000 in
set_option maxHeartbeats 1000000 in
theorem refTorn (o w m : ByteArray) (W : World) (ho : o.size ≤ 140737488351232) (hw : w.size ≤ maxLen) (hm : m.size ≤ maxLen) :
    Calls Tryz.prog 72 #[.string o, .string w, .string m] W fun e W' => e = .returned (.string (tornB o w m)) ∧ Below W.heap.size W W' := by
  unfold maxLen at hw hm
  obtain ⟨i0, hi, hz0, hz1, hz2⟩ := info_parts Tryz.info_u8
  go_enter Tryz.func72, Tryz.ntmps72
  go_wp2
  go_loopw [7, 8] (fun v i wr => ∃ k : Nat, k ≤ o.size ∧ i = .int .i64 k ∧ wr.ownsRow W.heap.size 5 1 v k ((upto (tornF (bl o) (bl w) (bl m)) k).map b8v) ∧ Below W.heap.size W wr)
    (fun _ i _ => o.size - (intOf i).toNat)
  case atStart => exact ⟨0, Nat.zero_le _, rfl, World.ownsRow_made _ _ 0 (by simp) (by simp) rfl, (Below.refl _ _).alloc (Nat.le_refl _) _⟩
  case round =>
    obtain ⟨k, hk, rfl, hown, hB⟩ := hrel
    have hsz := hB.size
    by_cases hlt : k < o.size
    · go_wp2_with fail
      go_quiet ((go_at_call 99; exact Calls.quiet_of_same (at_any _ _ _ _ (by unfold maxLen; omega) (by unfold maxLen; omega))))
      go_wp2_with fail
      refine (at_any _ _ _ _ (by unfold maxLen; omega) (by unfold maxLen; omega)).mono ?_
      rintro e w' ⟨rfl, rfl⟩
      have hown2 := own_drewN' hown nq
      have hB2 := below_drewN0 hB nq
      generalize wr.drewN nq = wq at hown2 hB2 ⊢
      have hsz2 := hB2.size
      clear hown hB hsz
      go_wp2_with (at_builtin; refine wpList_append_own _ rfl _ _ 108 rfl W.heap.size 5 i0 (.int .u8 0) 1 1 Tryz.underlying108 hi hz0 hz1 hz2 rfl (by decide) _ _ _ rfl (hown2.alloc _) ⟨wq.heap.size, 0, none⟩ 1 1 [b8v (tornF (bl o) (bl w) (bl m) k)] rfl rfl ?c1 ?c2 ?c3 ?c4 ?c5 ?_)
      case c1 =>
        have e : b8v (tornF (bl o) (bl w) (bl m) k) = Value.int .u8 ((bor (band (band o[k] (gd (bl w) k 255)) (gd (bl m) k 0)) (bandn o[k] (gd (bl m) k 0))).toNat : Int) := by
          rw [tornF, gd_in o k 0 hlt]; rfl
        rw [e]; exact cell_one_new _ _ _
      case c2 => simp [Value.oneCell', b8v]
      case c3 => unfold maxLen; omega
      case c4 => omega
      case c5 => simp; omega
      intro v' w1 hown' hgrow _
      have hB3 : Below W.heap.size W w1 := (hB2.alloc hsz2 _).grown hgrow (by simp; omega) (fun j e => ((hown2.lt j e).1))
      have H3 : Hid (w1.ownsRow W.heap.size 5 1 v' (k + 1) ((upto (tornF (bl o) (bl w) (bl m)) (k + 1)).map b8v)) := by
        rw [upto_succ, List.map_append]; exact hown'
      clear hown' hown2 hgrow hB2
      go_wp2
      go_roundw
      case rel => exact ⟨k + 1, by omega, by go_num, H3.out, hB3⟩
      case measure => simp [intOf]; omega
    · obtain rfl : k = o.size := by omega
      have hcv := owns_string (P := Tryz.prog) (src := 108) (dst := 9) Tryz.underlying108 Tryz.underlying5 Tryz.underlying9 hown
      have e : bs (upto (tornF (bl o) (bl w) (bl m)) o.size) = tornB o w m := by rw [tornB, tornL, bl_length]
      rw [e] at hcv
      clear e
      go_wp2
      go_ret
      exact ⟨rfl, hB⟩

set_option maxRecDepth 100000 in
set_option maxHeartbeats 1000000 in
theorem refAnd (o w : ByteArray) (W : World) (ho : o.size ≤ 140737488351232) (hw : w.size ≤ maxLen) :
    Calls Tryz.prog 101 #[.string o, .string w] W fun e W' => e = .returned (.string (andB o w)) ∧ Below W.heap.size W W' := by
  unfold maxLen at hw
  obtain ⟨i0, hi, hz0, hz1, hz2⟩ := info_parts Tryz.info_u8
  go_enter Tryz.func101, Tryz.ntmps101
  go_wp2
  go_loopw [5, 6] (fun v i wr => ∃ k : Nat, k ≤ o.size ∧ i = .int .i64 k ∧ wr.ownsRow W.heap.size 5 1 v k ((upto (andF (bl o) (bl w)) k).map b8v) ∧ Below W.heap.size W wr)
    (fun _ i _ => o.size - (intOf i).toNat)
  case atStart => exact ⟨0, Nat.zero_le _, rfl, World.ownsRow_made _ _ 0 (by simp) (by simp) rfl, (Below.refl _ _).alloc (Nat.le_refl _) _⟩
  case round =>
    obtain ⟨k, hk, rfl, hown, hB⟩ := hrel
    have hsz := hB.size
    by_cases hlt : k < o.size
    · go_wp2_with fail
      have e : b8v (andF (bl o) (bl w) k) = Value.int .u8 ((band o[k] (gd (bl w) k 255)).toNat : Int) := by
        rw [andF, gd_in o k 0 hlt]; rfl
      have He := Lib.hid e
      clear e
      go_region_law (first
        | (refine step_append_own rfl _ _ 108 rfl W.heap.size 5 i0 (.int .u8 0) 1 1 Tryz.underlying108 hi hz0 hz1 hz2 rfl (by decide) _ _ _ rfl (hown.drew.alloc _) ⟨wr.heap.size, 0, none⟩ 1 1 [b8v (andF (bl o) (bl w) k)] rfl rfl (by rw [He.out]; exact cell_one_new _ _ _) (by simp [Value.oneCell', b8v]) (by unfold maxLen; omega) (by omega) (by simp; omega) ?_; intro v' w1 hown' hgrow _)
        | (go_simp; go_at_call 99; refine (at_any _ _ _ _ (by unfold maxLen; omega) (by unfold maxLen; omega)).mono ?_; rintro e w' ⟨rfl, rfl⟩))
      all_goals
        have hB3 : Below W.heap.size W w1 := (hB.drew.alloc hsz _).grown hgrow (by simp; omega) (fun j e => ((hown.lt j e).1))
        have H3 : Hid (w1.ownsRow W.heap.size 5 1 v' (k + 1) ((upto (andF (bl o) (bl w)) (k + 1)).map b8v)) := by
          rw [upto_succ, List.map_append]; exact hown'
        clear hown' hown hgrow hB
        go_wp2
        go_roundw
        case rel => exact ⟨k + 1, by omega, by go_num, H3.out, hB3⟩
        case measure => simp [intOf]; omega
    · obtain rfl : k = o.size := by omega
      have hcv := owns_string (P := Tryz.prog) (src := 108) (dst := 9) Tryz.underlying108 Tryz.underlying5 Tryz.underlying9 hown
      have e : bs (upto (andF (bl o) (bl w)) o.size) = andB o w := by rw [andB, andL, bl_length]
      rw [e] at hcv
      clear e
      go_wp2
      go_ret
      exact ⟨rfl, hB⟩

end Go.Proofs.YthmpjoiifglbjaaGreat
namespace Go.Proofs.YthmpjoiifglbjaaGreat
open Go.RowKit Go.Shelf
set_option linter.unusedVariables false
attribute [local go_sem] b8_and b8_or b8_andNot gdI_255 gdI_0 Oper.semAt_some

/-- The three boxes from B on lie as they lay. -/
def KeepsAt (B : Nat) (W W' : World) : Prop := ∀ b, B ≤ b → b < B + 3 → W'.heap[b]? = W.heap[b]?
theorem KeepsAt.refl (B : Nat) (W : World) : KeepsAt B W W := fun _ _ _ => rfl
theorem KeepsAt.trans {B : Nat} {X Y Z : World} (h : KeepsAt B X Y) (k : KeepsAt B Y Z) : KeepsAt B X Z := fun b h1 h2 => (k b h1 h2).trans (h b h1 h2)
theorem KeepsAt.putObj {B : Nat} {w : World} (hB : B + 3 ≤ w.heap.size) (W : World) (l : Nat) (o o' : Obj) (hl : w.heap.size ≤ l) (_ : W.heap[l]? = some o) (_ : o.isCells = false) (_ : o.isWalk = false) : KeepsAt B W (W.putObj l o') :=
  fun b _ h2 => World.putObj_heap_other (by omega)
theorem KeepsAt.box {B : Nat} {W W' : World} (h : KeepsAt B W W') {b : Nat} {t : TypeId} {v : Value} (h1 : B ≤ b) (h2 : b < B + 3) (hb : Boxed W b t v) : Boxed W' b t v := (h b h1 h2).trans hb

/-- What the iterator hands out at a place. -/
def encP (o w m : ByteArray) (x : Fin o.size) : Array Value :=
  #[.int .i64 ((x.1 : Nat) : Int), .agg #[.int .u8 ((o[x.1]'x.2).toNat : Int), .int .u8 ((gd (bl w) x.1 255).toNat : Int), .int .u8 ((gd (bl m) x.1 0).toNat : Int)]]

/-- The places that have come when k rounds are over. -/
def pl (n k : Nat) : List (Fin n) := (List.finRange n).take k
theorem pl_zero (n : Nat) : pl n 0 = [] := rfl
theorem pl_all (n : Nat) : pl n n = List.finRange n := List.take_of_length_le (by simp)
theorem pl_succ (n k : Nat) (h : k < n) : pl n (k + 1) = pl n k ++ [⟨k, h⟩] := by
  unfold pl
  rw [List.take_succ_eq_append_getElem (by simpa using h)]
  simp
theorem pl_length (n k : Nat) (h : k ≤ n) : (pl n k).length = k := by simp [pl]; omega

set_option maxHeartbeats 1000000 in
theorem places_any (o w m : ByteArray) (W : World) :
    Calls Tryz.prog 95 #[.string o, .string w, .string m] W fun e W' =>
      e = .returned (.func (.func 124) #[] #[.pointer (some ⟨W.heap.size, 0, none⟩), .pointer (some ⟨W.heap.size + 1, 0, none⟩), .pointer (some ⟨W.heap.size + 1 + 1, 0, none⟩)]) ∧
      W' = ((W.alloc (.cells #[.string o] 9)).alloc (.cells #[.string w] 9)).alloc (.cells #[.string m] 9) := by
  go_enter Tryz.func95, Tryz.ntmps95
  go_wp2
  go_ret
  exact ⟨by simp, rfl⟩

set_option maxRecDepth 100000 in
set_option maxHeartbeats 2000000 in
theorem places_stops (n : Nat) (hn : 2 ≤ n) (B : Nat) (o w m : ByteArray) (ho : o.size ≤ 140737488351232) (hw : w.size ≤ maxLen) (hm : m.size ≤ maxLen)
    (w0 : World) (b0 : Boxed w0 B 9 (.string o)) (b1 : Boxed w0 (B + 1) 9 (.string w)) (b2 : Boxed w0 (B + 1 + 1) 9 (.string m)) :
    SeqStopsK Fence.wide n Tryz.prog 124 #[.pointer (some ⟨B, 0, none⟩), .pointer (some ⟨B + 1, 0, none⟩), .pointer (some ⟨B + 1 + 1, 0, none⟩)]
      (encP o w m) (KeepsAt B) (fun ys => ys = List.finRange o.size) (fun _ => True) o.size w0 := by
  intro l J Jx W hW hJ hJx hY h0
  have hlt2 := b2.lt
  have h1 : 1 ≤ n := by omega
  have k0 : KeepsAt B w0 W := fun b h1 h2 => hW.block b (by omega)
  unfold maxLen at hw hm
  refine callsIn_of_wp Tryz.func124 rfl trivial ?_ rfl
  simp only [Tryz.ntmps124, List.size_toArray, List.length_cons, List.length_nil, Nat.reduceAdd, Nat.reduceSub, Array.replicate_succ, Array.replicate_zero, List.push_toArray, List.append_toArray, List.nil_append, List.cons_append]
  have c0 := (k0.box (b := B) (by omega) (by omega) b0).cell
  gi_wp2
  gi_loopw [9] (fun i wr => ∃ k : Nat, k ≤ o.size ∧ i = .int .i64 k ∧ J (pl o.size k) wr ∧ KeepsAt B w0 wr)
    (fun i _ => o.size - (intOf i).toNat)
  case atStart => exact ⟨0, Nat.zero_le _, rfl, h0, k0⟩
  case round =>
    obtain ⟨k, hk, rfl, hJs, hK⟩ := hrel
    have hbz := (hK.box (b := B + 1 + 1) (by omega) (by omega) b2).lt
    clear c0
    by_cases hlt : k < o.size
    · have c0 := (hK.box (b := B) (by omega) (by omega) b0).cell
      have c1 := (hK.box (b := B + 1) (by omega) (by omega) b1).cell
      have c2 := (hK.box (b := B + 1 + 1) (by omega) (by omega) b2).cell
      gi_wp2
      refine wpIn_wide.2 ?_
      refine Code.wp_mono (Q := fun e a' w' => e = Exit.normal ∧ a' = { tmps := #[.func (.yield l) #[] #[], .pointer (some ⟨B, 0, none⟩), .pointer (some ⟨B + 1, 0, none⟩), .pointer (some ⟨B + 1 + 1, 0, none⟩), undef, .int .i64 k, .pointer (some ⟨wr.heap.size, 0, none⟩), .string o, .int .i64 o.size, .int .i64 k, .bool true, .int .i64 k, .string o, .int .i64 k, .int .u8 (o[k].toNat : Int), .string w, .int .i64 k, .int .u8 ((gd (bl w) k 255).toNat : Int), .string m, .int .i64 k, .int .u8 ((gd (bl m) k 0).toNat : Int), .agg #[.int .u8 (o[k].toNat : Int), .int .u8 ((gd (bl w) k 255).toNat : Int), .int .u8 ((gd (bl m) k 0).toNat : Int)], u22, u23, u24, u25, u26, u27], defers := [] } ∧
        w' = ((wr.alloc (.cells #[.int .u8 (o[k].toNat : Int), .int .u8 ((gd (bl w) k 255).toNat : Int), .int .u8 ((gd (bl m) k 0).toNat : Int)] 159)).drew)) ?_ ?_
      · rintro e a' w' ⟨rfl, rfl, rfl⟩
        have hJ2 : J (pl o.size k) ((wr.alloc (.cells #[.int .u8 (o[k].toNat : Int), .int .u8 ((gd (bl w) k 255).toNat : Int), .int .u8 ((gd (bl m) k 0).toNat : Int)] 159)).drew) :=
          hJ _ wr _ none hJs ⟨rfl, rfl, rfl, by simp, fun b h _ => Below.heap_alloc wr _ b h⟩ (fun r e => by cases e)
        have hK2 : KeepsAt B w0 ((wr.alloc (.cells #[.int .u8 (o[k].toNat : Int), .int .u8 ((gd (bl w) k 255).toNat : Int), .int .u8 ((gd (bl m) k 0).toNat : Int)] 159)).drew) := hK.trans (fun b h1 h2 => Below.heap_alloc wr _ b (by omega))
        obtain ⟨fn, tmps, assign, body, hy, hR⟩ := hY (pl o.size k) ⟨k, hlt⟩ _ hJ2 (by rw [pl_length _ _ hk]; exact hlt)
        dsimp only [encP] at hy
        gi_wp2
        refine hR.mono ?_
        rintro e W3 (⟨rfl, hJ3, hk3⟩ | ⟨rfl, hJx3⟩)
        · gi_wp2
          go_roundw
          case rel => exact ⟨k + 1, by omega, by simp, by rw [pl_succ _ _ hlt]; exact hJ3, hK2.trans hk3⟩
          case measure => simp [intOf]; omega
        · gi_wp2
          refine bodyPost_ret (results_none rfl _ _ _) rfl ?_
          exact ⟨⟨_, rfl⟩, .inr ⟨_, trivial, hJx3⟩⟩
      · go_region_held3 (fun w' => w'.cell? ⟨B, 0, none⟩ = some (.string o) ∧ w'.cell? ⟨B + 1, 0, none⟩ = some (.string w) ∧ w'.cell? ⟨B + 1 + 1, 0, none⟩ = some (.string m)) (go_keep)
          (first | (go_at_call 125; refine (byteAt_any _ _ _ _ (by unfold maxLen; omega) (by unfold maxLen; omega)).mono ?_; rintro e w' ⟨rfl, rfl⟩))
        all_goals exact ⟨rfl, rfl, rfl⟩
    · obtain rfl : k = o.size := by omega
      gi_wp2
      go_end0
      exact ⟨⟨_, rfl⟩, .inl ⟨_, rfl, by rw [← pl_all]; exact hJs⟩⟩
end Go.Proofs.YthmpjoiifglbjaaGreat

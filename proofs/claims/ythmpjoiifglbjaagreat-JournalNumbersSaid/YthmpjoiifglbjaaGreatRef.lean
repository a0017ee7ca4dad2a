/- The walks of the reference's own functions of layer 1, and of the small functions that the program calls: contracts only. -/
import Derived.Test.YthmpjoiifglbjaaGreatRows
import Derived.WalkKit
import Derived.ProofKit
import Derived.OpenShut
import Derived.StillTailTactics
import Derived.BigQuiet
import Derived.Deep.QuietTactic
import Derived.Lib.Hide
import Derived.Maps.AppendAt
import Derived.Deep.RegionLaw
import Derived.Test.YthmpjoiifglbjaaGreatBase
namespace Go.Proofs.YthmpjoiifglbjaaGreat
open Go.RowKit
set_option linter.unusedVariables false
attribute [local go_sem] b8_and b8_or b8_andNot gdI_255 gdI_0 b8_bit b8_bitand

theorem Tryz.info_u8 : (Tryz.prog.info? 5).map (fun i => (i.zero, i.size, i.bytes)) = some (some (.int .u8 0), 1, 1) := by kernel_rfl

/-- append to a row of the call's own, as one step of a region that draws its order. -/
theorem step_append_own {P : Program} {ops : Array Oper} {o : Oper} {a : Act} {w : World} {K : Act → World → Prop} {Q : Exit → Act → World → Prop} {E : Prop}
    (hg : o.guard = none) (s x : Operand) (t : TypeId) (ho : o.op = Op.call { callee := Callee.builtin Builtin.append, args := #[s, x], argTypes := #[t, t] })
    (base : Nat) (e : TypeId) (i : TypeInfo) (z : Value) (size bytes : Nat) (ht : P.underlying t = some (.slice e)) (hi : P.info? e = some i) (hz : i.zero = some z)
    (hsize : i.size = size) (hby : i.bytes = bytes) (hzs : z.cells.size = size) (hsz : 0 < size)
    (v : Value) (n : Nat) (xs : List Value) (hs : a.eval s = v) (hown : w.ownsRow base e size v n xs)
    (ad : Addr) (m c : Nat) (news : List Value) (hx : a.eval x = .slice (some ad) m c) (hl : news.length = m * size) (hnews : ∀ j u, news[j]? = some u → w.cell? (ad.add j) = some u) (h1 : ∀ u ∈ news, u.oneCell' = true)
    (h63 : n + m ≤ maxLen) (hbytes : (n + m) * bytes ≤ 140737488355328) (hbase : base ≤ w.heap.size)
    (h : ∀ v' w', w'.ownsRow base e size v' (n + m) (xs ++ news) → w.grownBy w' v.ownBlock → (v' = .slice none 0 0 ↔ v = .slice none 0 0 ∧ m = 0) → K (a.put o.dst v') w') :
    if Region.wanted o (yielded ops a.tmps) = true then Oper.wp P o a w K Q else E := by
  have hw : Region.wanted o (yielded ops a.tmps) = true := by simp [Region.wanted, hg]
  rw [if_pos hw]
  exact wp_append_own w s x t ho base e i z size bytes ht hi hz hsize hby hzs hsz v n xs hs hown ad m c news hx hl hnews h1 h63 hbytes hbase h

theorem at_any (s : ByteArray) (i : Nat) (d : Int) (w : World) (hs : s.size ≤ maxLen) (hi : i ≤ maxLen) :
    Calls Tryz.prog 99 #[.string s, .int .i64 i, .int .u8 d] w fun e w' => e = .returned (.int .u8 (gdI s i d)) ∧ w' = w := by
  unfold maxLen at hs hi
  by_cases h : i < s.size
  · have hg : gdI s i d = (s[i].toNat : Int) := dif_pos h
    rw [hg]; clear hg
    go_enter Tryz.func99, Tryz.ntmps99
    go_wp2
    go_ret
    exact ⟨rfl, rfl⟩
  · have hg : gdI s i d = d := dif_neg h
    rw [hg]; clear hg
    go_enter Tryz.func99, Tryz.ntmps99
    go_wp2
    go_ret
    exact ⟨rfl, rfl⟩

theorem byteAt_any (s : ByteArray) (i : Nat) (d : Int) (w : World) (hs : s.size ≤ maxLen) (hi : i ≤ maxLen) :
    Calls Tryz.prog 125 #[.string s, .int .i64 i, .int .u8 d] w fun e w' => e = .returned (.int .u8 (gdI s i d)) ∧ w' = w := by
  unfold maxLen at hs hi
  by_cases h : i < s.size
  · have hg : gdI s i d = (s[i].toNat : Int) := dif_pos h
    rw [hg]; clear hg
    go_enter Tryz.func125, Tryz.ntmps125
    go_wp2
    go_ret
    exact ⟨rfl, rfl⟩
  · have hg : gdI s i d = d := dif_neg h
    rw [hg]; clear hg
    go_enter Tryz.func125, Tryz.ntmps125
    go_wp2
    go_ret
    exact ⟨rfl, rfl⟩


set_option maxRecDepth 100000 in
set_option maxHeartbeats 1000000 in
theorem refTorn (o w m : ByteArray) (W : World) (ho : o.size ≤ 140737488351232) (hw : w.size ≤ maxLen) (hm : m.size ≤ maxLen) :
    Calls Tryz.prog 72 #[.string o, .string w, .string m] W fun e W' => e = .returned (.string (tornB o w m)) ∧ Below W.heap.size W W' := by
  unfold maxLen at hw hm
  obtain ⟨i0, hi, hz0, hz1, hz2⟩ := info_parts Tryz.info_u8
  go_enter Tryz.func72, Tryz.ntmps72
  go_wp2
  go_loopw [7, 8] (fun v i wr => ∃ k : Nat, k ≤ o.size ∧ i = .int .i64 k ∧ wr.ownsRow W.heap.size 5 1 v k ((upto (tornF (bl o) (bl w) (bl m)) k).map b8v) ∧ Below W.heap.size W wr)
    (fun _ i _ => o.size - (intOf i).toNat)
  case atStart => exact ⟨0, Nat.zero_le _, rfl, World.ownsRow_made _ _ 0 (by simp) (by simp) rfl, (Below.refl _ _).alloc (Nat.le_refl _) _⟩
  case round =>
    obtain ⟨k, hk, rfl, hown, hB⟩ := hrel
    have hsz := hB.size
    by_cases hlt : k < o.size
    · go_wp2_with fail
      go_quiet ((go_at_call 99; exact Calls.quiet_of_same (at_any _ _ _ _ (by unfold maxLen; omega) (by unfold maxLen; omega))))
      go_wp2_with fail
      refine (at_any _ _ _ _ (by unfold maxLen; omega) (by unfold maxLen; omega)).mono ?_
      rintro e w' ⟨rfl, rfl⟩
      have hown2 := own_drewN' hown nq
      have hB2 := below_drewN0 hB nq
      generalize wr.drewN nq = wq at hown2 hB2 ⊢
      have hsz2 := hB2.size
      clear hown hB hsz
      go_wp2_with (at_builtin; refine wpList_append_own _ rfl _ _ 108 rfl W.heap.size 5 i0 (.int .u8 0) 1 1 Tryz.underlying108 hi hz0 hz1 hz2 rfl (by decide) _ _ _ rfl (hown2.alloc _) ⟨wq.heap.size, 0, none⟩ 1 1 [b8v (tornF (bl o) (bl w) (bl m) k)] rfl rfl ?c1 ?c2 ?c3 ?c4 ?c5 ?_)
      case c1 =>
        have e : b8v (tornF (bl o) (bl w) (bl m) k) = Value.int .u8 ((bor (band (band o[k] (gd (bl w) k 255)) (gd (bl m) k 0)) (bandn o[k] (gd (bl m) k 0))).toNat : Int) := by
          rw [tornF, gd_in o k 0 hlt]; rfl
        rw [e]; exact cell_one_new _ _ _
      case c2 => simp [Value.oneCell', b8v]
      case c3 => unfold maxLen; omega
      case c4 => omega
      case c5 => simp; omega
      intro v' w1 hown' hgrow _
      have hB3 : Below W.heap.size W w1 := (hB2.alloc hsz2 _).grown hgrow (by simp; omega) (fun j e => ((hown2.lt j e).1))
      have H3 : Hid (w1.ownsRow W.heap.size 5 1 v' (k + 1) ((upto (tornF (bl o) (bl w) (bl m)) (k + 1)).map b8v)) := by
        rw [upto_succ, List.map_append]; exact hown'
      clear hown' hown2 hgrow hB2
      go_wp2
      go_roundw
      case rel => exact ⟨k + 1, by omega, by go_num, H3.out, hB3⟩
      case measure => simp [intOf]; omega
    · obtain rfl : k = o.size := by omega
      have hcv := owns_string (P := Tryz.prog) (src := 108) (dst := 9) Tryz.underlying108 Tryz.underlying5 Tryz.underlying9 hown
      have e : bs (upto (tornF (bl o) (bl w) (bl m)) o.size) = tornB o w m := by rw [tornB, tornL, bl_length]
      rw [e] at hcv
      clear e
      go_wp2
      go_ret
      exact ⟨rfl, hB⟩

set_option maxRecDepth 100000 in
set_option maxHeartbeats 1000000 in
theorem refAnd (o w : ByteArray) (W : World) (ho : o.size ≤ 140737488351232) (hw : w.size ≤ maxLen) :
    Calls Tryz.prog 101 #[.string o, .string w] W fun e W' => e = .returned (.string (andB o w)) ∧ Below W.heap.size W W' := by
  unfold maxLen at hw
  obtain ⟨i0, hi, hz0, hz1, hz2⟩ := info_parts Tryz.info_u8
  go_enter Tryz.func101, Tryz.ntmps101
  go_wp2
  go_loopw [5, 6] (fun v i wr => ∃ k : Nat, k ≤ o.size ∧ i = .int .i64 k ∧ wr.ownsRow W.heap.size 5 1 v k ((upto (andF (bl o) (bl w)) k).map b8v) ∧ Below W.heap.size W wr)
    (fun _ i _ => o.size - (intOf i).toNat)
  case atStart => exact ⟨0, Nat.zero_le _, rfl, World.ownsRow_made _ _ 0 (by simp) (by simp) rfl, (Below.refl _ _).alloc (Nat.le_refl _) _⟩
  case round =>
    obtain ⟨k, hk, rfl, hown, hB⟩ := hrel
    have hsz := hB.size
    by_cases hlt : k < o.size
    · go_wp2_with fail
      have e : b8v (andF (bl o) (bl w) k) = Value.int .u8 ((band o[k] (gd (bl w) k 255)).toNat : Int) := by
        rw [andF, gd_in o k 0 hlt]; rfl
      have He := Lib.hid e
      clear e
      go_region_law (first
        | (refine step_append_own rfl _ _ 108 rfl W.heap.size 5 i0 (.int .u8 0) 1 1 Tryz.underlying108 hi hz0 hz1 hz2 rfl (by decide) _ _ _ rfl (hown.drew.alloc _) ⟨wr.heap.size, 0, none⟩ 1 1 [b8v (andF (bl o) (bl w) k)] rfl rfl (by rw [He.out]; exact cell_one_new _ _ _) (by simp [Value.oneCell', b8v]) (by unfold maxLen; omega) (by omega) (by simp; omega) ?_; intro v' w1 hown' hgrow _)
        | (go_simp; go_at_call 99; refine (at_any _ _ _ _ (by unfold maxLen; omega) (by unfold maxLen; omega)).mono ?_; rintro e w' ⟨rfl, rfl⟩))
      all_goals
        have hB3 : Below W.heap.size W w1 := (hB.drew.alloc hsz _).grown hgrow (by simp; omega) (fun j e => ((hown.lt j e).1))
        have H3 : Hid (w1.ownsRow W.heap.size 5 1 v' (k + 1) ((upto (andF (bl o) (bl w)) (k + 1)).map b8v)) := by
          rw [upto_succ, List.map_append]; exact hown'
        clear hown' hown hgrow hB
        go_wp2
        go_roundw
        case rel => exact ⟨k + 1, by omega, by go_num, H3.out, hB3⟩
        case measure => simp [intOf]; omega
    · obtain rfl : k = o.size := by omega
      have hcv := owns_string (P := Tryz.prog) (src := 108) (dst := 9) Tryz.underlying108 Tryz.underlying5 Tryz.underlying9 hown
      have e : bs (upto (andF (bl o) (bl w)) o.size) = andB o w := by rw [andB, andL, bl_length]
      rw [e] at hcv
      clear e
      go_wp2
      go_ret
      exact ⟨rfl, hB⟩

end Go.Proofs.YthmpjoiifglbjaaGreat

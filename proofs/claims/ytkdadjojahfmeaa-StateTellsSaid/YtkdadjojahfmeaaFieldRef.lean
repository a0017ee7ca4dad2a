/- The reference's functions of layer 6 that later layers call: contracts only. -/
import Derived.Test.YtkdadjojahfmeaaRows
import Derived.Test.YtkdadjojahfmeaaFieldPlain
import Derived.Test.YtkdadjojahfmeaaInts
import Derived.WalkKit
import Derived.ProofKit
import Derived.Lib.Hide
import Derived.IntWalk
namespace Go.Proofs.Ytkdadjojahfmeaa
open Go.RowKit
set_option linter.unusedVariables false

theorem Try.info_u8f : (Try.prog.info? 5).map (fun i => (i.zero, i.size, i.bytes)) = some (some (.int .u8 0), 1, 1) := by kernel_rfl

/-- The number that bytes say, as far as it fits in 64 bits: behind a name that the walk does not open. -/
def getW (l : List UInt8) : Nat := getN l % 18446744073709551616
theorem getW_lt (l : List UInt8) : getW l < 18446744073709551616 := Nat.mod_lt _ (by decide)
theorem get_step (l : List UInt8) (b : UInt8) : bits .or .u64 (IntKind.u64.wrap ((getW l : Int) * 256)) (IntKind.u64.wrap (b.toNat : Int)) = (getW (l ++ [b]) : Int) := by
  have hb := b.toNat_lt
  have hl := getW_lt l
  have hw : IntKind.u64.wrap ((getW l : Int) * 256) = ((getW l * 256 % 18446744073709551616 : Nat) : Int) := by
    simp [IntKind.wrap, IntKind.signed, IntKind.bits]
  have hv : IntKind.u64.wrap (b.toNat : Int) = (b.toNat : Int) := by
    simp [IntKind.wrap, IntKind.signed, IntKind.bits]; omega
  rw [hw, hv, u64_or_nat _ _ (Nat.mod_lt _ (by decide)) (by omega)]
  have hm : getW l * 256 % 18446744073709551616 = 2 ^ 8 * (getW l % 72057594037927936) := by omega
  rw [hm, ← Nat.two_pow_add_eq_or_of_lt hb]
  unfold getW
  rw [getN_snoc]
  omega

theorem put_val (n k : Nat) : b8v (UInt8.ofNat (n / 256 ^ k)) = .int .u8 ((n : Int) / 2 ^ (8 * k) % 256) := by
  have h : (256 : Nat) ^ k = 2 ^ (8 * k) := by rw [Nat.pow_mul]
  unfold b8v
  rw [UInt8.toNat_ofNat', h]
  congr 1
theorem put_row (n W j : Nat) (h : j + 1 ≤ W) : putL (n / 256 ^ j) (W - j) = putL (n / 256 ^ (j + 1)) (W - (j + 1)) ++ [UInt8.ofNat (n / 256 ^ j)] := by
  rw [show W - j = (W - (j + 1)) + 1 from by omega, putL_split, Nat.pow_one, Nat.div_div_eq_div_mul, ← Nat.pow_succ]
  simp [putL]

set_option maxRecDepth 100000 in
set_option maxHeartbeats 1000000 in
theorem ref06Get (s : ByteArray) (W : World) (hs : s.size ≤ maxLen) :
    Calls Try.prog 26 #[.string s] W fun e W' => e = .returned (.int .u64 (getB s : Int)) ∧ W' = W := by
  unfold maxLen at hs
  go_enter Try.func26, Try.ntmps26
  go_wp2
  go_loop [3, 4] (fun v i => ∃ k : Nat, k ≤ s.size ∧ i = .int .i64 k ∧ v = .int .u64 (getW ((bl s).take k) : Int))
    (fun _ i => s.size - (intOf i).toNat)
  case atStart => exact ⟨0, Nat.zero_le _, rfl, rfl⟩
  case round =>
    obtain ⟨k, hk, rfl, rfl⟩ := hrel
    by_cases hlt : k < s.size
    · have H2 := Lib.hid (show bits .or .u64 (IntKind.u64.wrap ((getW ((bl s).take k) : Int) * 256)) (IntKind.u64.wrap (s[k].toNat : Int)) = (getW ((bl s).take (k + 1)) : Int) from by
        rw [List.take_succ_eq_append_getElem (by rw [bl_length]; exact hlt)]; exact get_step _ _)
      go_wp2
      go_round
      case rel => exact ⟨k + 1, by omega, by go_num, by rw [← H2.out]⟩
      case measure => simp [intOf]; omega
    · obtain rfl : k = s.size := by omega
      have H := Lib.hid (show (getW ((bl s).take s.size) : Int) = (getB s : Int) from by rw [← bl_length s, List.take_length]; rfl)
      go_wp2
      go_ret
      exact ⟨ret_int H.out, rfl⟩

set_option maxRecDepth 100000 in
set_option maxHeartbeats 2000000 in
theorem ref06Put (n : BitVec 64) (w : Int) (W : World) :
    Calls Try.prog 21 #[.int .u64 (n.toNat : Int), .int .i64 w] W fun e W' => e = .returned (.string (putB n.toNat w)) ∧ Below W.heap.size W W' := by
  have hn := n.isLt
  obtain ⟨i0, hi, hz0, hz1, hz2⟩ := info_parts Try.info_u8f
  by_cases h0 : w ≤ 0
  · have hc : clampW w = 0 := by unfold clampW; omega
    have HF := Lib.hid (show bs (putL (n.toNat / 256 ^ 0) (0 - 0)) = putB n.toNat w from by rw [Nat.pow_zero, Nat.div_one, Nat.sub_zero, putB, hc])
    clear hc
    go_enter Try.func21, Try.ntmps21
    go_wp2
    go_loopw [5, 6] (fun v i wr => ∃ j : Nat, j ≤ 0 ∧ i = .int .i64 ((j : Int) - 1) ∧ wr.ownsRow W.heap.size 5 1 v (0 - j) ((putL (n.toNat / 256 ^ j) (0 - j)).map b8v) ∧ Below W.heap.size W wr)
      (fun _ i _ => ((intOf i) + 1).toNat)
    case atStart => exact ⟨0, Nat.le_refl _, by first | rfl | go_num, by rw [Nat.sub_self]; exact World.ownsRow_made _ _ 0 (by simp) (by simp) rfl, (Below.refl _ _).alloc (Nat.le_refl _) _⟩
    case round =>
      obtain ⟨j, hj, hi6, hown, hB⟩ := hrel
      have hsz := hB.size
      by_cases hlt : 0 < j
      · exact absurd hlt (by omega)
      · obtain rfl : j = 0 := by omega
        subst hi6
        have hcv := owns_string (P := Try.prog) (src := 53) (dst := 9) Try.underlying53 Try.underlying5 Try.underlying9 hown
        rw [HF.out] at hcv
        clear hown
        go_wp2
        go_ret
        exact ⟨rfl, hB⟩
  · by_cases h8 : 8 < w
    · have hc : clampW w = 8 := by unfold clampW; omega
      obtain ⟨c, hc8⟩ : ∃ c : Nat, c = 8 := ⟨_, rfl⟩
      rw [← hc8] at hc
      have hc7 : c ≤ 8 := by omega
      have HC := Lib.hid hc8
      have HF := Lib.hid (show bs (putL (n.toNat / 256 ^ 0) (c - 0)) = putB n.toNat w from by rw [Nat.pow_zero, Nat.div_one, Nat.sub_zero, putB, hc])
      clear hc hc8
      go_enter Try.func21, Try.ntmps21
      go_wp2
      go_loopw [5, 6] (fun v i wr => ∃ j : Nat, j ≤ c ∧ i = .int .i64 ((j : Int) - 1) ∧ wr.ownsRow W.heap.size 5 1 v (c - j) ((putL (n.toNat / 256 ^ j) (c - j)).map b8v) ∧ Below W.heap.size W wr)
        (fun _ i _ => ((intOf i) + 1).toNat)
      case atStart => exact ⟨c, Nat.le_refl _, by rw [HC.out]; rfl, by rw [Nat.sub_self]; exact World.ownsRow_made _ _ 0 (by simp) (by simp) rfl, (Below.refl _ _).alloc (Nat.le_refl _) _⟩
      case round =>
        obtain ⟨j, hj, hi6, hown, hB⟩ := hrel
        have hsz := hB.size
        by_cases hlt : 0 < j
        · obtain ⟨k, rfl⟩ : ∃ k, j = k + 1 := ⟨j - 1, by omega⟩
          rw [show (((k + 1 : Nat) : Int) - 1) = (k : Int) from by omega] at hi6
          subst hi6
          have hk0 : (0 : Int) ≤ (k : Int) := by omega
          have hk8 : (k : Int) ≤ 7 := by omega
          have HV := Lib.hid (show b8v (UInt8.ofNat (n.toNat / 256 ^ k)) = .int .u8 ((n.toNat : Int) / 2 ^ (8 * k) % 256) from put_val n.toNat k)
          have HR := Lib.hid (put_row n.toNat c k hj)
          go_wp2_with (at_builtin; refine wpList_append_own _ rfl _ _ 53 rfl W.heap.size 5 i0 (.int .u8 0) 1 1 Try.underlying53 hi hz0 hz1 hz2 rfl (by decide) _ _ _ rfl (hown.alloc _) ⟨wr.heap.size, 0, none⟩ 1 1 [b8v (UInt8.ofNat (n.toNat / 256 ^ k))] rfl rfl ?c1 ?c2 ?c3 ?c4 ?c5 ?_)
          case c1 => rw [HV.out]; exact cell_one_new _ _ _
          case c2 => simp [Value.oneCell', b8v]
          case c3 => unfold maxLen; omega
          case c4 => omega
          case c5 => simp; omega
          intro v' w1 hown' hgrow _
          have hB3 : Below W.heap.size W w1 := (hB.alloc hsz _).grown hgrow (by simp; omega) (fun j e => ((hown.lt j e).1))
          have H3 : Hid (w1.ownsRow W.heap.size 5 1 v' (c - k) ((putL (n.toNat / 256 ^ k) (c - k)).map b8v)) := by
            rw [HR.out, List.map_append, show c - k = c - (k + 1) + 1 from by omega]; exact hown'
          clear hown' hown hgrow hB
          go_wp2
          go_roundw
          case rel => exact ⟨k, by omega, by go_num, H3.out, hB3⟩
          case measure => first | (simp [intOf]; done) | (simp [intOf]; omega)
        · obtain rfl : j = 0 := by omega
          subst hi6
          have hcv := owns_string (P := Try.prog) (src := 53) (dst := 9) Try.underlying53 Try.underlying5 Try.underlying9 hown
          rw [HF.out] at hcv
          clear hown
          go_wp2
          go_ret
          exact ⟨rfl, hB⟩
    · obtain ⟨c, rfl⟩ := Int.eq_ofNat_of_zero_le (by omega : 0 ≤ w)
      have hc : clampW (c : Int) = c := by unfold clampW; omega
      have hc1 : 0 < c := by omega
      have hc7 : c ≤ 8 := by omega
      have HF := Lib.hid (show bs (putL (n.toNat / 256 ^ 0) (c - 0)) = putB n.toNat (c : Int) from by rw [Nat.pow_zero, Nat.div_one, Nat.sub_zero, putB, hc])
      clear hc
      go_enter Try.func21, Try.ntmps21
      go_wp2
      go_loopw [5, 6] (fun v i wr => ∃ j : Nat, j ≤ c ∧ i = .int .i64 ((j : Int) - 1) ∧ wr.ownsRow W.heap.size 5 1 v (c - j) ((putL (n.toNat / 256 ^ j) (c - j)).map b8v) ∧ Below W.heap.size W wr)
        (fun _ i _ => ((intOf i) + 1).toNat)
      case atStart => exact ⟨c, Nat.le_refl _, by first | rfl | go_num, by rw [Nat.sub_self]; exact World.ownsRow_made _ _ 0 (by simp) (by simp) rfl, (Below.refl _ _).alloc (Nat.le_refl _) _⟩
      case round =>
        obtain ⟨j, hj, hi6, hown, hB⟩ := hrel
        have hsz := hB.size
        by_cases hlt : 0 < j
        · obtain ⟨k, rfl⟩ : ∃ k, j = k + 1 := ⟨j - 1, by omega⟩
          rw [show (((k + 1 : Nat) : Int) - 1) = (k : Int) from by omega] at hi6
          subst hi6
          have hk0 : (0 : Int) ≤ (k : Int) := by omega
          have hk8 : (k : Int) ≤ 7 := by omega
          have HV := Lib.hid (show b8v (UInt8.ofNat (n.toNat / 256 ^ k)) = .int .u8 ((n.toNat : Int) / 2 ^ (8 * k) % 256) from put_val n.toNat k)
          have HR := Lib.hid (put_row n.toNat c k hj)
          go_wp2_with (at_builtin; refine wpList_append_own _ rfl _ _ 53 rfl W.heap.size 5 i0 (.int .u8 0) 1 1 Try.underlying53 hi hz0 hz1 hz2 rfl (by decide) _ _ _ rfl (hown.alloc _) ⟨wr.heap.size, 0, none⟩ 1 1 [b8v (UInt8.ofNat (n.toNat / 256 ^ k))] rfl rfl ?c1 ?c2 ?c3 ?c4 ?c5 ?_)
          case c1 => rw [HV.out]; exact cell_one_new _ _ _
          case c2 => simp [Value.oneCell', b8v]
          case c3 => unfold maxLen; omega
          case c4 => omega
          case c5 => simp; omega
          intro v' w1 hown' hgrow _
          have hB3 : Below W.heap.size W w1 := (hB.alloc hsz _).grown hgrow (by simp; omega) (fun j e => ((hown.lt j e).1))
          have H3 : Hid (w1.ownsRow W.heap.size 5 1 v' (c - k) ((putL (n.toNat / 256 ^ k) (c - k)).map b8v)) := by
            rw [HR.out, List.map_append, show c - k = c - (k + 1) + 1 from by omega]; exact hown'
          clear hown' hown hgrow hB
          go_wp2
          go_roundw
          case rel => exact ⟨k, by omega, by go_num, H3.out, hB3⟩
          case measure => first | (simp [intOf]; done) | (simp [intOf]; omega)
        · obtain rfl : j = 0 := by omega
          subst hi6
          have hcv := owns_string (P := Try.prog) (src := 53) (dst := 9) Try.underlying53 Try.underlying5 Try.underlying9 hown
          rw [HF.out] at hcv
          clear hown
          go_wp2
          go_ret
          exact ⟨rfl, hB⟩
end Go.Proofs.Ytkdadjojahfmeaa

/- The walks of the reference's functions of layer 2: contracts only. -/
import Derived.Test.YthmpjoiifglbjaaGreatRows
import Derived.Test.YthmpjoiifglbjaaGreatFieldPlain
import Derived.Test.YthmpjoiifglbjaaGreatInts
import Derived.WalkKit
import Derived.ProofKit
import Derived.Lib.Hide
import Derived.IntWalk
import Derived.OpenShut
import Derived.BigQuiet
import Derived.Deep.QuietTactic
import Derived.Maps.AppendAt
import Derived.Deep.RegionLaw
import Derived.Test.YthmpjoiifglbjaaGreatBase
import Derived.Test.YthmpjoiifglbjaaGreatBytes
namespace Go.Proofs.YthmpjoiifglbjaaGreat
open Go.RowKit
set_option linter.unusedVariables false

theorem Tryz.info_u8f : (Tryz.prog.info? 5).map (fun i => (i.zero, i.size, i.bytes)) = some (some (.int .u8 0), 1, 1) := by kernel_rfl

/-- The number that bytes say, as far as it fits in 64 bits: behind a name that the walk does not open. -/
def getW (l : List UInt8) : Nat := getN l % 18446744073709551616
theorem getW_lt (l : List UInt8) : getW l < 18446744073709551616 := Nat.mod_lt _ (by decide)
theorem get_step (l : List UInt8) (b : UInt8) : bits .or .u64 (IntKind.u64.wrap ((getW l : Int) * 256)) (IntKind.u64.wrap (b.toNat : Int)) = (getW (l ++ [b]) : Int) := by
  have hb := b.toNat_lt
  have hl := getW_lt l
  have hw : IntKind.u64.wrap ((getW l : Int) * 256) = ((getW l * 256 % 18446744073709551616 : Nat) : Int) := by
    simp [IntKind.wrap, IntKind.signed, IntKind.bits]
  have hv : IntKind.u64.wrap (b.toNat : Int) = (b.toNat : Int) := by
    simp [IntKind.wrap, IntKind.signed, IntKind.bits]; omega
  rw [hw, hv, u64_or_nat _ _ (Nat.mod_lt _ (by decide)) (by omega)]
  have hm : getW l * 256 % 18446744073709551616 = 2 ^ 8 * (getW l % 72057594037927936) := by omega
  rw [hm, ← Nat.two_pow_add_eq_or_of_lt hb]
  unfold getW
  rw [getN_snoc]
  omega

theorem put_val (n k : Nat) : b8v (UInt8.ofNat (n / 256 ^ k)) = .int .u8 ((n : Int) / 2 ^ (8 * k) % 256) := by
  have h : (256 : Nat) ^ k = 2 ^ (8 * k) := by rw [Nat.pow_mul]
  unfold b8v
  rw [UInt8.toNat_ofNat', h]
  congr 1
theorem put_row (n W j : Nat) (h : j + 1 ≤ W) : putL (n / 256 ^ j) (W - j) = putL (n / 256 ^ (j + 1)) (W - (j + 1)) ++ [UInt8.ofNat (n / 256 ^ j)] := by
  rw [show W - j = (W - (j + 1)) + 1 from by omega, putL_split, Nat.pow_one, Nat.div_div_eq_div_mul, ← Nat.pow_succ]
  simp [putL]

set_option maxRecDepth 100000 in
set_option maxHeartbeats 1000000 in
theorem ref06Get (s : ByteArray) (W : World) (hs : s.size ≤ maxLen) :
    Calls Tryz.prog 109 #[.string s] W fun e W' => e = .returned (.int .u64 (getB s : Int)) ∧ W' = W := by
  unfold maxLen at hs
  go_enter Tryz.func109, Tryz.ntmps109
  go_wp2
  go_loop [3, 4] (fun v i => ∃ k : Nat, k ≤ s.size ∧ i = .int .i64 k ∧ v = .int .u64 (getW ((bl s).take k) : Int))
    (fun _ i => s.size - (intOf i).toNat)
  case atStart => exact ⟨0, Nat.zero_le _, rfl, rfl⟩
  case round =>
    obtain ⟨k, hk, rfl, rfl⟩ := hrel
    by_cases hlt : k < s.size
    · have H2 := Lib.hid (show bits .or .u64 (IntKind.u64.wrap ((getW ((bl s).take k) : Int) * 256)) (IntKind.u64.wrap (s[k].toNat : Int)) = (getW ((bl s).take (k + 1)) : Int) from by
        rw [List.take_succ_eq_append_getElem (by rw [bl_length]; exact hlt)]; exact get_step _ _)
      go_wp2
      go_round
      case rel => exact ⟨k + 1, by omega, by go_num, by rw [← H2.out]⟩
      case measure => simp [intOf]; omega
    · obtain rfl : k = s.size := by omega
      have H := Lib.hid (show (getW ((bl s).take s.size) : Int) = (getB s : Int) from by rw [← bl_length s, List.take_length]; rfl)
      go_wp2
      go_ret
      exact ⟨ret_int H.out, rfl⟩

set_option maxRecDepth 100000 in
set_option maxHeartbeats 2000000 in
theorem ref06Put (n : BitVec 64) (w : Int) (W : World) :
    Calls Tryz.prog 96 #[.int .u64 (n.toNat : Int), .int .i64 w] W fun e W' => e = .returned (.string (putB n.toNat w)) ∧ Below W.heap.size W W' := by
  have hn := n.isLt
  obtain ⟨i0, hi, hz0, hz1, hz2⟩ := info_parts Tryz.info_u8f
  by_cases h0 : w ≤ 0
  · have hc : clampW w = 0 := by unfold clampW; omega
    have HF := Lib.hid (show bs (putL (n.toNat / 256 ^ 0) (0 - 0)) = putB n.toNat w from by rw [Nat.pow_zero, Nat.div_one, Nat.sub_zero, putB, hc])
    clear hc
    go_enter Tryz.func96, Tryz.ntmps96
    go_wp2
    go_loopw [5, 6] (fun v i wr => ∃ j : Nat, j ≤ 0 ∧ i = .int .i64 ((j : Int) - 1) ∧ wr.ownsRow W.heap.size 5 1 v (0 - j) ((putL (n.toNat / 256 ^ j) (0 - j)).map b8v) ∧ Below W.heap.size W wr)
      (fun _ i _ => ((intOf i) + 1).toNat)
    case atStart => exact ⟨0, Nat.le_refl _, by first | rfl | go_num, by rw [Nat.sub_self]; exact World.ownsRow_made _ _ 0 (by simp) (by simp) rfl, (Below.refl _ _).alloc (Nat.le_refl _) _⟩
    case round =>
      obtain ⟨j, hj, hi6, hown, hB⟩ := hrel
      have hsz := hB.size
      by_cases hlt : 0 < j
      · exact absurd hlt (by omega)
      · obtain rfl : j = 0 := by omega
        subst hi6
        have hcv := owns_string (P := Tryz.prog) (src := 108) (dst := 9) Tryz.underlying108 Tryz.underlying5 Tryz.underlying9 hown
        rw [HF.out] at hcv
        clear hown
        go_wp2
        go_ret
        exact ⟨rfl, hB⟩
  · by_cases h8 : 8 < w
    · have hc : clampW w = 8 := by unfold clampW; omega
      obtain ⟨c, hc8⟩ : ∃ c : Nat, c = 8 := ⟨_, rfl⟩
      rw [← hc8] at hc
      have hc7 : c ≤ 8 := by omega
      have HC := Lib.hid hc8
      have HF := Lib.hid (show bs (putL (n.toNat / 256 ^ 0) (c - 0)) = putB n.toNat w from by rw [Nat.pow_zero, Nat.div_one, Nat.sub_zero, putB, hc])
      clear hc hc8
      go_enter Tryz.func96, Tryz.ntmps96
      go_wp2
      go_loopw [5, 6] (fun v i wr => ∃ j : Nat, j ≤ c ∧ i = .int .i64 ((j : Int) - 1) ∧ wr.ownsRow W.heap.size 5 1 v (c - j) ((putL (n.toNat / 256 ^ j) (c - j)).map b8v) ∧ Below W.heap.size W wr)
        (fun _ i _ => ((intOf i) + 1).toNat)
      case atStart => exact ⟨c, Nat.le_refl _, by rw [HC.out]; rfl, by rw [Nat.sub_self]; exact World.ownsRow_made _ _ 0 (by simp) (by simp) rfl, (Below.refl _ _).alloc (Nat.le_refl _) _⟩
      case round =>
        obtain ⟨j, hj, hi6, hown, hB⟩ := hrel
        have hsz := hB.size
        by_cases hlt : 0 < j
        · obtain ⟨k, rfl⟩ : ∃ k, j = k + 1 := ⟨j - 1, by omega⟩
          rw [show (((k + 1 : Nat) : Int) - 1) = (k : Int) from by omega] at hi6
          subst hi6
          have hk0 : (0 : Int) ≤ (k : Int) := by omega
          have hk8 : (k : Int) ≤ 7 := by omega
          have HV := Lib.hid (show b8v (UInt8.ofNat (n.toNat / 256 ^ k)) = .int .u8 ((n.toNat : Int) / 2 ^ (8 * k) % 256) from put_val n.toNat k)
          have HR := Lib.hid (put_row n.toNat c k hj)
          go_wp2_with (at_builtin; refine wpList_append_own _ rfl _ _ 108 rfl W.heap.size 5 i0 (.int .u8 0) 1 1 Tryz.underlying108 hi hz0 hz1 hz2 rfl (by decide) _ _ _ rfl (hown.alloc _) ⟨wr.heap.size, 0, none⟩ 1 1 [b8v (UInt8.ofNat (n.toNat / 256 ^ k))] rfl rfl ?c1 ?c2 ?c3 ?c4 ?c5 ?_)
          case c1 => rw [HV.out]; exact cell_one_new _ _ _
          case c2 => simp [Value.oneCell', b8v]
          case c3 => unfold maxLen; omega
          case c4 => omega
          case c5 => simp; omega
          intro v' w1 hown' hgrow _
          have hB3 : Below W.heap.size W w1 := (hB.alloc hsz _).grown hgrow (by simp; omega) (fun j e => ((hown.lt j e).1))
          have H3 : Hid (w1.ownsRow W.heap.size 5 1 v' (c - k) ((putL (n.toNat / 256 ^ k) (c - k)).map b8v)) := by
            rw [HR.out, List.map_append, show c - k = c - (k + 1) + 1 from by omega]; exact hown'
          clear hown' hown hgrow hB
          go_wp2
          go_roundw
          case rel => exact ⟨k, by omega, by go_num, H3.out, hB3⟩
          case measure => first | (simp [intOf]; done) | (simp [intOf]; omega)
        · obtain rfl : j = 0 := by omega
          subst hi6
          have hcv := owns_string (P := Tryz.prog) (src := 108) (dst := 9) Tryz.underlying108 Tryz.underlying5 Tryz.underlying9 hown
          rw [HF.out] at hcv
          clear hown
          go_wp2
          go_ret
          exact ⟨rfl, hB⟩
    · obtain ⟨c, rfl⟩ := Int.eq_ofNat_of_zero_le (by omega : 0 ≤ w)
      have hc : clampW (c : Int) = c := by unfold clampW; omega
      have hc1 : 0 < c := by omega
      have hc7 : c ≤ 8 := by omega
      have HF := Lib.hid (show bs (putL (n.toNat / 256 ^ 0) (c - 0)) = putB n.toNat (c : Int) from by rw [Nat.pow_zero, Nat.div_one, Nat.sub_zero, putB, hc])
      clear hc
      go_enter Tryz.func96, Tryz.ntmps96
      go_wp2
      go_loopw [5, 6] (fun v i wr => ∃ j : Nat, j ≤ c ∧ i = .int .i64 ((j : Int) - 1) ∧ wr.ownsRow W.heap.size 5 1 v (c - j) ((putL (n.toNat / 256 ^ j) (c - j)).map b8v) ∧ Below W.heap.size W wr)
        (fun _ i _ => ((intOf i) + 1).toNat)
      case atStart => exact ⟨c, Nat.le_refl _, by first | rfl | go_num, by rw [Nat.sub_self]; exact World.ownsRow_made _ _ 0 (by simp) (by simp) rfl, (Below.refl _ _).alloc (Nat.le_refl _) _⟩
      case round =>
        obtain ⟨j, hj, hi6, hown, hB⟩ := hrel
        have hsz := hB.size
        by_cases hlt : 0 < j
        · obtain ⟨k, rfl⟩ : ∃ k, j = k + 1 := ⟨j - 1, by omega⟩
          rw [show (((k + 1 : Nat) : Int) - 1) = (k : Int) from by omega] at hi6
          subst hi6
          have hk0 : (0 : Int) ≤ (k : Int) := by omega
          have hk8 : (k : Int) ≤ 7 := by omega
          have HV := Lib.hid (show b8v (UInt8.ofNat (n.toNat / 256 ^ k)) = .int .u8 ((n.toNat : Int) / 2 ^ (8 * k) % 256) from put_val n.toNat k)
          have HR := Lib.hid (put_row n.toNat c k hj)
          go_wp2_with (at_builtin; refine wpList_append_own _ rfl _ _ 108 rfl W.heap.size 5 i0 (.int .u8 0) 1 1 Tryz.underlying108 hi hz0 hz1 hz2 rfl (by decide) _ _ _ rfl (hown.alloc _) ⟨wr.heap.size, 0, none⟩ 1 1 [b8v (UInt8.ofNat (n.toNat / 256 ^ k))] rfl rfl ?c1 ?c2 ?c3 ?c4 ?c5 ?_)
          case c1 => rw [HV.out]; exact cell_one_new _ _ _
          case c2 => simp [Value.oneCell', b8v]
          case c3 => unfold maxLen; omega
          case c4 => omega
          case c5 => simp; omega
          intro v' w1 hown' hgrow _
          have hB3 : Below W.heap.size W w1 := (hB.alloc hsz _).grown hgrow (by simp; omega) (fun j e => ((hown.lt j e).1))
          have H3 : Hid (w1.ownsRow W.heap.size 5 1 v' (c - k) ((putL (n.toNat / 256 ^ k) (c - k)).map b8v)) := by
            rw [HR.out, List.map_append, show c - k = c - (k + 1) + 1 from by omega]; exact hown'
          clear hown' hown hgrow hB
          go_wp2
          go_roundw
          case rel => exact ⟨k, by omega, by go_num, H3.out, hB3⟩
          case measure => first | (simp [intOf]; done) | (simp [intOf]; omega)
        · obtain rfl : j = 0 := by omega
          subst hi6
          have hcv := owns_string (P := Tryz.prog) (src := 108) (dst := 9) Tryz.underlying108 Tryz.underlying5 Tryz.underlying9 hown
          rw [HF.out] at hcv
          clear hown
          go_wp2
          go_ret
          exact ⟨rfl, hB⟩
end Go.Proofs.YthmpjoiifglbjaaGreat
namespace Go.Proofs.YthmpjoiifglbjaaGreat
open Go.RowKit
set_option linter.unusedVariables false

def wx (a b : BitVec 32) : BitVec 32 := a ^^^ b
def lsb (a : BitVec 32) : Nat := (a.getLsbD 0).toNat
theorem w_xor (a b : BitVec 32) : bits .xor .u32 (a.toNat : Int) (b.toNat : Int) = ((wx a b).toNat : Int) := by
  rw [u32_xor_nat _ _ a.isLt b.isLt, wx, BitVec.toNat_xor]
theorem w_xor8 (a : BitVec 32) (b : UInt8) : bits .xor .u32 (a.toNat : Int) (b.toNat : Int) = ((wx a (z8 b)).toNat : Int) := by
  have hb := b.toNat_lt
  have h : (z8 b).toNat = b.toNat := by rw [z8, BitVec.toNat_ofNat, Nat.mod_eq_of_lt (by omega)]
  rw [← w_xor, h]

theorem w_lsb (a : BitVec 32) : bits .and .u32 (a.toNat : Int) 1 = ((lsb a : Nat) : Int) := by
  rw [show (1 : Int) = ((1 : Nat) : Int) from rfl, u32_and_nat _ _ a.isLt (by decide), nat_mask1, lsb]
  rw [BitVec.getLsbD, Nat.testBit_zero]
  rcases Nat.mod_two_eq_zero_or_one a.toNat with h | h <;> rw [h] <;> rfl
theorem w_shr (a : BitVec 32) : ((a.toNat : Int) / (2 : Int) : Int) = ((a >>> 1).toNat : Int) := by
  rw [BitVec.toNat_ushiftRight, Nat.shiftRight_eq_div_pow]; rfl
theorem w_poly (a : BitVec 32) : bits .xor .u32 (a.toNat : Int) 3988292384 = ((a ^^^ 0xEDB88320#32).toNat : Int) := by
  have := w_xor a 0xEDB88320#32
  exact this
theorem w_all (a : BitVec 32) : bits .xor .u32 (a.toNat : Int) 4294967295 = ((wx a 0xFFFFFFFF#32).toNat : Int) := by
  have := w_xor a 0xFFFFFFFF#32
  exact this
theorem half_of_one {a : BitVec 32} (h : lsb a = 1) : half a = (a >>> 1) ^^^ 0xEDB88320#32 := by
  unfold lsb at h; unfold half
  cases h0 : a.getLsbD 0 with
  | false => rw [h0] at h; cases h
  | true => rfl
theorem half_of_none {a : BitVec 32} (h : ¬ lsb a = 1) : half a = a >>> 1 := by
  unfold lsb at h; unfold half
  cases h0 : a.getLsbD 0 with
  | false => rfl
  | true => rw [h0] at h; exact absurd rfl h
attribute [local go_sem] w_xor8 w_lsb w_all

set_option maxRecDepth 100000 in
set_option maxHeartbeats 1000000 in
theorem refStep (c : BitVec 32) (b : UInt8) (W : World) :
    Calls Tryz.prog 126 #[.int .u32 (c.toNat : Int), .int .u8 (b.toNat : Int)] W fun e W' => e = .returned (.int .u32 ((stepW c b).toNat : Int)) ∧ W' = W := by
  have hc := c.isLt
  have hb := b.toNat_lt
  go_enter Tryz.func126, Tryz.ntmps126
  go_wp2
  go_loop [0, 5] (fun v i => ∃ k : Nat, k ≤ 8 ∧ i = .int .i64 k ∧ v = .int .u32 ((halves k (wx c (z8 b))).toNat : Int))
    (fun _ i => 8 - (intOf i).toNat)
  case atStart => exact ⟨0, by omega, rfl, rfl⟩
  case round =>
    obtain ⟨k, hk, rfl, rfl⟩ := hrel
    have hx := (halves k (wx c (z8 b))).isLt
    by_cases hlt : k < 8
    · by_cases h1 : lsb (halves k (wx c (z8 b))) = 1
      · have H1 := Lib.hid (half_of_one h1)
        have h2 : (((lsb (halves k (wx c (z8 b))) : Nat) : Int) == 1) = true := by rw [h1]; rfl
        clear h1
        go_wp2
        go_round
        case rel => exact ⟨k + 1, by omega, by go_num, by rw [w_shr, w_poly, halves, H1.out]⟩
        case measure => simp [intOf]; omega
      · have H1 := Lib.hid (half_of_none h1)
        have h2 : (((lsb (halves k (wx c (z8 b))) : Nat) : Int) == 1) = false := beq_eq_false_iff_ne.2 (fun h => h1 (by omega))
        clear h1
        go_wp2
        go_round
        case rel => exact ⟨k + 1, by omega, by go_num, by rw [w_shr, halves, H1.out]⟩
        case measure => simp [intOf]; omega
    · obtain rfl : k = 8 := by omega
      go_wp2
      go_ret
      exact ⟨rfl, rfl⟩

/-- The sum of a text. -/
def sumT (s : ByteArray) : Int := ((sumW (bl s)).toNat : Int)

set_option maxRecDepth 100000 in
set_option maxHeartbeats 1000000 in
theorem refSum (s : ByteArray) (W : World) (hs : s.size ≤ maxLen) :
    Calls Tryz.prog 98 #[.string s] W fun e W' => e = .returned (.int .u32 (sumT s)) ∧ W' = W := by
  unfold maxLen at hs
  go_enter Tryz.func98, Tryz.ntmps98
  go_wp2
  go_loop [3, 4] (fun v i => ∃ k : Nat, k ≤ s.size ∧ i = .int .i64 k ∧ v = .int .u32 ((foldW 0xFFFFFFFF#32 ((bl s).take k)).toNat : Int))
    (fun _ i => s.size - (intOf i).toNat)
  case atStart => exact ⟨0, by omega, rfl, rfl⟩
  case round =>
    obtain ⟨k, hk, rfl, rfl⟩ := hrel
    by_cases hlt : k < s.size
    · have H1 := Lib.hid (show foldW 0xFFFFFFFF#32 ((bl s).take (k + 1)) = stepW (foldW 0xFFFFFFFF#32 ((bl s).take k)) s[k] from by
        rw [List.take_succ_eq_append_getElem (by rw [bl_length]; exact hlt), foldW_snoc]; rfl)
      go_wp2_with fail
      refine (refStep _ _ _).mono ?_
      rintro e w' ⟨rfl, rfl⟩
      go_wp2
      go_round
      case rel => exact ⟨k + 1, by omega, by go_num, by rw [H1.out]⟩
      case measure => simp [intOf]; omega
    · obtain rfl : k = s.size := by omega
      have H2 := Lib.hid (show ((wx (foldW 0xFFFFFFFF#32 ((bl s).take s.size)) 0xFFFFFFFF#32).toNat : Int) = sumT s from by
        rw [← bl_length s, List.take_length]; rfl)
      go_wp2
      go_ret
      exact ⟨ret_int H2.out, rfl⟩

/-- The ends of the part of a text that is asked for. -/
def hiI (s : ByteArray) (t : Int) : Nat := min t.toNat s.size
def rangeT (s : ByteArray) (f t : Int) : Int := if hiI s t ≤ f.toNat then 0 else sumT (s.extract f.toNat (hiI s t))
theorem rangeT_none {s : ByteArray} {f t : Int} (h : hiI s t ≤ f.toNat) : rangeT s f t = 0 := if_pos h
theorem rangeT_some {s : ByteArray} {f t : Int} {a b : Nat} (h : ¬ hiI s t ≤ f.toNat) (ha : f.toNat = a) (hb : hiI s t = b) : rangeT s f t = sumT (s.extract a b) := by
  subst ha; subst hb; exact if_neg h
theorem extract_all (s : ByteArray) : s.extract 0 s.size = s := by simp

end Go.Proofs.YthmpjoiifglbjaaGreat

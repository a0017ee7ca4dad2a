/- The program's own functions of layer 6: contracts only. -/
import Derived.Test.YtdfacpppmfoiiaaRows
import Derived.Test.YtdfacpppmfoiiaaInts
import Derived.Test.YtdfacpppmfoiiaaBox
import Derived.Test.YtdfacpppmfoiiaaFieldPlain
import Derived.WalkKit
import Derived.ProofKit
import Derived.Lib.Hide
import Derived.OwnWalk
import Derived.Laws.OwnMore
namespace Go.Proofs.Ytdfacpppmfoiiaa
open Go.RowKit
set_option linter.unusedVariables false

/-- The bytes that have come when k places are over. -/
def fillP (n w k : Nat) : List UInt8 := (putL n w).take k ++ List.replicate (w - k) 0
theorem fillP_length {n w k : Nat} (h : k ≤ w) : (fillP n w k).length = w := by
  unfold fillP; rw [List.length_append, List.length_take, putL_length, List.length_replicate]; omega
theorem fillP_zero (n w : Nat) : fillP n w 0 = List.replicate w 0 := by simp [fillP]
theorem fillP_all (n w : Nat) : fillP n w w = putL n w := by
  unfold fillP; rw [List.take_of_length_le (by rw [putL_length]; omega)]; simp
theorem putL_get (n w k : Nat) (h : k < w) : (putL n w)[k]? = some (UInt8.ofNat (n / 256 ^ (w - 1 - k))) := by
  induction w generalizing k with
  | zero => omega
  | succ w ih =>
    rw [putL]
    cases k with
    | zero => simp
    | succ k => rw [List.getElem?_cons_succ, ih k (by omega), show w + 1 - 1 - (k + 1) = w - 1 - k from by omega]
theorem fillP_set {n w k : Nat} (h : k < w) : (fillP n w k).set k (UInt8.ofNat (n / 256 ^ (w - 1 - k))) = fillP n w (k + 1) := by
  apply List.ext_getElem?
  intro i
  have hl := fillP_length (n := n) (Nat.le_of_lt h)
  rw [List.getElem?_set]
  unfold fillP at *
  by_cases e : k = i
  · subst e
    rw [if_pos rfl, if_pos (by omega), List.getElem?_append_left (by rw [List.length_take, putL_length]; omega), List.getElem?_take, if_pos (by omega), putL_get n w k h]
  · rw [if_neg e]
    by_cases hi : i < k
    · rw [List.getElem?_append_left (by rw [List.length_take, putL_length]; omega), List.getElem?_append_left (by rw [List.length_take, putL_length]; omega), List.getElem?_take, List.getElem?_take, if_pos hi, if_pos (by omega)]
    · rw [List.getElem?_append_right (by rw [List.length_take, putL_length]; omega), List.getElem?_append_right (by rw [List.length_take, putL_length]; omega), List.getElem?_replicate, List.getElem?_replicate, List.length_take, List.length_take, putL_length]
      by_cases h2 : i < w
      · rw [if_pos (by omega), if_pos (by omega)]
      · rw [if_neg (by omega), if_neg (by omega)]
/-- The number that has come when k places are over. -/
def fillG (l : List UInt8) (k : Nat) : Nat := getN (l.take k) * 256 ^ (l.length - k)
theorem fillG_zero (l : List UInt8) : fillG l 0 = 0 := by simp [fillG, getN]
theorem fillG_all (l : List UInt8) : fillG l l.length = getN l := by simp [fillG]
theorem fillG_lt (l : List UInt8) (k : Nat) (hk : k ≤ l.length) : fillG l k < 256 ^ l.length := by
  unfold fillG
  have h := getN_lt (l.take k)
  rw [List.length_take, Nat.min_eq_left hk] at h
  have h2 : (getN (l.take k) + 1) * 256 ^ (l.length - k) ≤ 256 ^ k * 256 ^ (l.length - k) := Nat.mul_le_mul_right _ h
  rw [← Nat.pow_add, show k + (l.length - k) = l.length from by omega, Nat.add_mul, Nat.one_mul] at h2
  have h3 : 0 < 256 ^ (l.length - k) := Nat.pow_pos (by decide)
  omega
theorem fillG_step (l : List UInt8) (k : Nat) (h : k < l.length) : fillG l k ||| l[k].toNat * 2 ^ (8 * (l.length - 1 - k)) = fillG l (k + 1) := by
  unfold fillG
  have hb := l[k].toNat_lt
  obtain ⟨m, hm⟩ : ∃ m, l.length - 1 - k = m := ⟨_, rfl⟩
  rw [hm, show l.length - k = m + 1 from by omega, show l.length - (k + 1) = m from by omega, List.take_succ_eq_append_getElem h, getN_snoc]
  have hp : 2 ^ (8 * m) = 256 ^ m := by rw [Nat.pow_mul]
  have hq : (256 : Nat) ^ (m + 1) = 2 ^ (8 * (m + 1)) := by rw [Nat.pow_mul]
  rw [hp]
  have hlt : l[k].toNat * 256 ^ m < 2 ^ (8 * (m + 1)) := by
    rw [← hq, Nat.pow_succ, Nat.mul_comm]
    exact Nat.mul_lt_mul_of_pos_left hb (Nat.pow_pos (by decide))
  rw [hq, Nat.mul_comm (getN _) (2 ^ _), ← Nat.two_pow_add_eq_or_of_lt hlt, ← hq, Nat.pow_succ, Nat.add_mul, Nat.mul_comm 256 (getN _), Nat.mul_assoc (getN _) 256, Nat.mul_comm 256 (256 ^ m), Nat.mul_comm (getN _)]
theorem fillG_text (t : ByteArray) (k : Nat) (h : k < t.size) : fillG (bl t) k ||| t[k].toNat * 2 ^ (8 * (t.size - 1 - k)) = fillG (bl t) (k + 1) :=
  fillG_step (bl t) k (by rw [bl_length]; exact h)
theorem fld_u8 : (Try.prog.info? 5).map (fun i => (i.zero, i.size, i.bytes)) = some (some (.int .u8 0), 1, 1) := by kernel_rfl
theorem own_brow {w : World} {base g n cap : Nat} {e : TypeId} {l : List UInt8} (h : w.ownsRow base e 1 (.slice (some ⟨g, 0, none⟩) n cap) n (l.map b8v)) (hl : l.length = n) : BRow w g l := by
  refine ⟨(h.lt g rfl).2, fun j hj => ⟨?_, h.frozenAt j⟩⟩
  rw [h.cellAt j (by omega), List.getElem?_map]
  simp [gd, hj]

theorem getB_last {s : ByteArray} (h : 8 ≤ s.size) : getN (bl (s.extract (s.size - 8) s.size)) = getB s := by
  have h1 : bl s = (bl s).take (s.size - 8) ++ bl (s.extract (s.size - 8) s.size) := by
    rw [bl_extract, List.take_of_length_le (i := s.size) (l := bl s) (by rw [bl_length]; omega), List.take_append_drop]
  have hz : (bl (s.extract (s.size - 8) s.size)).length = 8 := by rw [bl_length]; simp; omega
  have hl := getN_lt (bl (s.extract (s.size - 8) s.size))
  rw [hz] at hl
  rw [getB, h1, getN_append, hz]
  generalize getN (bl (s.extract (s.size - 8) s.size)) = x at *
  generalize getN (List.take (s.size - 8) (bl s)) = y at *
  omega

theorem u64_wrap (x : Int) : IntKind.u64.wrap x = x % 18446744073709551616 := by simp [IntKind.wrap, IntKind.signed, IntKind.bits]
theorem signed_0 (n : Nat) (w : Int) (hn : n < 18446744073709551616) (hc : clampW w = 0) : wrap64 (IntKind.u64.wrap ((n : Int) * 18446744073709551616)) / 18446744073709551616 = signedI n w := by
  unfold signedI
  rw [if_pos (by unfold clampW at hc; omega), u64_wrap]
  unfold wrap64
  omega
theorem signed_1 (n : Nat) (w : Int) (hn : n < 18446744073709551616) (hc : clampW w = 1) : wrap64 (IntKind.u64.wrap ((n : Int) * 72057594037927936)) / 72057594037927936 = signedI n w := by
  unfold signedI
  rw [if_neg (by unfold clampW at hc; omega), hc, show (256 : Nat) ^ 1 = 256 from rfl, u64_wrap]
  unfold wrap64
  split <;> omega
theorem signed_2 (n : Nat) (w : Int) (hn : n < 18446744073709551616) (hc : clampW w = 2) : wrap64 (IntKind.u64.wrap ((n : Int) * 281474976710656)) / 281474976710656 = signedI n w := by
  unfold signedI
  rw [if_neg (by unfold clampW at hc; omega), hc, show (256 : Nat) ^ 2 = 65536 from rfl, u64_wrap]
  unfold wrap64
  split <;> omega
theorem signed_3 (n : Nat) (w : Int) (hn : n < 18446744073709551616) (hc : clampW w = 3) : wrap64 (IntKind.u64.wrap ((n : Int) * 1099511627776)) / 1099511627776 = signedI n w := by
  unfold signedI
  rw [if_neg (by unfold clampW at hc; omega), hc, show (256 : Nat) ^ 3 = 16777216 from rfl, u64_wrap]
  unfold wrap64
  split <;> omega
theorem signed_4 (n : Nat) (w : Int) (hn : n < 18446744073709551616) (hc : clampW w = 4) : wrap64 (IntKind.u64.wrap ((n : Int) * 4294967296)) / 4294967296 = signedI n w := by
  unfold signedI
  rw [if_neg (by unfold clampW at hc; omega), hc, show (256 : Nat) ^ 4 = 4294967296 from rfl, u64_wrap]
  unfold wrap64
  split <;> omega
theorem signed_5 (n : Nat) (w : Int) (hn : n < 18446744073709551616) (hc : clampW w = 5) : wrap64 (IntKind.u64.wrap ((n : Int) * 16777216)) / 16777216 = signedI n w := by
  unfold signedI
  rw [if_neg (by unfold clampW at hc; omega), hc, show (256 : Nat) ^ 5 = 1099511627776 from rfl, u64_wrap]
  unfold wrap64
  split <;> omega
theorem signed_6 (n : Nat) (w : Int) (hn : n < 18446744073709551616) (hc : clampW w = 6) : wrap64 (IntKind.u64.wrap ((n : Int) * 65536)) / 65536 = signedI n w := by
  unfold signedI
  rw [if_neg (by unfold clampW at hc; omega), hc, show (256 : Nat) ^ 6 = 281474976710656 from rfl, u64_wrap]
  unfold wrap64
  split <;> omega
theorem signed_7 (n : Nat) (w : Int) (hn : n < 18446744073709551616) (hc : clampW w = 7) : wrap64 (IntKind.u64.wrap ((n : Int) * 256)) / 256 = signedI n w := by
  unfold signedI
  rw [if_neg (by unfold clampW at hc; omega), hc, show (256 : Nat) ^ 7 = 72057594037927936 from rfl, u64_wrap]
  unfold wrap64
  split <;> omega
theorem signed_8 (n : Nat) (w : Int) (hn : n < 18446744073709551616) (hc : clampW w = 8) : wrap64 (n : Int) = signedI n w := by
  unfold signedI
  rw [if_neg (by unfold clampW at hc; omega), hc, show (256 : Nat) ^ 8 = 18446744073709551616 from rfl]
  unfold wrap64
  split <;> omega

end Go.Proofs.Ytdfacpppmfoiiaa

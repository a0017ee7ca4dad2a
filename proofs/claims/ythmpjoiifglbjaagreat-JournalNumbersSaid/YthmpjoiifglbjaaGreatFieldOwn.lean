/- The program's own functions of layer 6: contracts only. -/
import Derived.Test.YthmpjoiifglbjaaGreatRows
import Derived.Test.YthmpjoiifglbjaaGreatInts
import Derived.Test.YthmpjoiifglbjaaGreatBox
import Derived.Test.YthmpjoiifglbjaaGreatFieldPlain
import Derived.WalkKit
import Derived.ProofKit
import Derived.Lib.Hide
import Derived.OwnWalk
import Derived.Laws.OwnMore
namespace Go.Proofs.YthmpjoiifglbjaaGreat
open Go.RowKit
set_option linter.unusedVariables false

/-- The bytes that have come when k places are over. -/
def fillP (n w k : Nat) : List UInt8 := (putL n w).take k ++ List.replicate (w - k) 0
theorem fillP_length {n w k : Nat} (h : k ≤ w) : (fillP n w k).length = w := by
  unfold fillP; rw [List.length_append, List.length_take, putL_length, List.length_replicate]; omega
theorem fillP_zero (n w : Nat) : fillP n w 0 = List.replicate w 0 := by simp [fillP]
theorem fillP_all (n w : Nat) : fillP n w w = putL n w := by
  unfold fillP; rw [List.take_of_length_le (by rw [putL_length]; omega)]; simp
theorem putL_get (n w k : Nat) (h : k < w) : (putL n w)[k]? = some (UInt8.ofNat (n / 256 ^ (w - 1 - k))) := by
  induction w generalizing k with
  | zero => omega
  | succ w ih =>
    rw [putL]
    cases k with
    | zero => simp
    | succ k => rw [List.getElem?_cons_succ, ih k (by omega), show w + 1 - 1 - (k + 1) = w - 1 - k from by omega]
theorem fillP_set {n w k : Nat} (h : k < w) : (fillP n w k).set k (UInt8.ofNat (n / 256 ^ (w - 1 - k))) = fillP n w (k + 1) := by
  apply List.ext_getElem?
  intro i
  have hl := fillP_length (n := n) (Nat.le_of_lt h)
  rw [List.getElem?_set]
  unfold fillP at *
  by_cases e : k = i
  · subst e
    rw [if_pos rfl, if_pos (by omega), List.getElem?_append_left (by rw [List.length_take, putL_length]; omega), List.getElem?_take, if_pos (by omega), putL_get n w k h]
  · rw [if_neg e]
    by_cases hi : i < k
    · rw [List.getElem?_append_left (by rw [List.length_take, putL_length]; omega), List.getElem?_append_left (by rw [List.length_take, putL_length]; omega), List.getElem?_take, List.getElem?_take, if_pos hi, if_pos (by omega)]
    · rw [List.getElem?_append_right (by rw [List.length_take, putL_length]; omega), List.getElem?_append_right (by rw [List.length_take, putL_length]; omega), List.getElem?_replicate, List.getElem?_replicate, List.length_take, List.length_take, putL_length]
      by_cases h2 : i < w
      · rw [if_pos (by omega), if_pos (by omega)]
      · rw [if_neg (by omega), if_neg (by omega)]
/-- The number that has come when k places are over. -/
def fillG (l : List UInt8) (k : Nat) : Nat := getN (l.take k) * 256 ^ (l.length - k)
theorem fillG_zero (l : List UInt8) : fillG l 0 = 0 := by simp [fillG, getN]
theorem fillG_all (l : List UInt8) : fillG l l.length = getN l := by simp [fillG]
theorem fillG_lt (l : List UInt8) (k : Nat) (hk : k ≤ l.length) : fillG l k < 256 ^ l.length := by
  unfold fillG
  have h := getN_lt (l.take k)
  rw [List.length_take, Nat.min_eq_left hk] at h
  have h2 : (getN (l.take k) + 1) * 256 ^ (l.length - k) ≤ 256 ^ k * 256 ^ (l.length - k) := Nat.mul_le_mul_right _ h
  rw [← Nat.pow_add, show k + (l.length - k) = l.length from by omega, Nat.add_mul, Nat.one_mul] at h2
  have h3 : 0 < 256 ^ (l.length - k) := Nat.pow_pos (by decide)
  omega
theorem fillG_step (l : List UInt8) (k : Nat) (h : k < l.length) : fillG l k ||| l[k].toNat * 2 ^ (8 * (l.length - 1 - k)) = fillG l (k + 1) := by
  unfold fillG
  have hb := l[k].toNat_lt
  obtain ⟨m, hm⟩ : ∃ m, l.length - 1 - k = m := ⟨_, rfl⟩
  rw [hm, show l.length - k = m + 1 from by omega, show l.length - (k + 1) = m from by omega, List.take_succ_eq_append_getElem h, getN_snoc]
  have hp : 2 ^ (8 * m) = 256 ^ m := by rw [Nat.pow_mul]
  have hq : (256 : Nat) ^ (m + 1) = 2 ^ (8 * (m + 1)) := by rw [Nat.pow_mul]
  rw [hp]
  have hlt : l[k].toNat * 256 ^ m < 2 ^ (8 * (m + 1)) := by
    rw [← hq, Nat.pow_succ, Nat.mul_comm]
    exact Nat.mul_lt_mul_of_pos_left hb (Nat.pow_pos (by decide))
  rw [hq, Nat.mul_comm (getN _) (2 ^ _), ← Nat.two_pow_add_eq_or_of_lt hlt, ← hq, Nat.pow_succ, Nat.add_mul, Nat.mul_comm 256 (getN _), Nat.mul_assoc (getN _) 256, Nat.mul_comm 256 (256 ^ m), Nat.mul_comm (getN _)]
theorem fillG_text (t : ByteArray) (k : Nat) (h : k < t.size) : fillG (bl t) k ||| t[k].toNat * 2 ^ (8 * (t.size - 1 - k)) = fillG (bl t) (k + 1) :=
  fillG_step (bl t) k (by rw [bl_length]; exact h)
theorem fld_u8 : (Tryz.prog.info? 5).map (fun i => (i.zero, i.size, i.bytes)) = some (some (.int .u8 0), 1, 1) := by kernel_rfl
theorem own_brow {w : World} {base g n cap : Nat} {e : TypeId} {l : List UInt8} (h : w.ownsRow base e 1 (.slice (some ⟨g, 0, none⟩) n cap) n (l.map b8v)) (hl : l.length = n) : BRow w g l := by
  refine ⟨(h.lt g rfl).2, fun j hj => ⟨?_, h.frozenAt j⟩⟩
  rw [h.cellAt j (by omega), List.getElem?_map]
  simp [gd, hj]

set_option maxRecDepth 100000 in
set_option maxHeartbeats 1000000 in
theorem fldHeld (w : Int) (W : World) : Calls Tryz.prog 142 #[.int .i64 w] W fun e W' => e = .returned (.int .i64 (clampW w : Int)) ∧ W' = W := by
  by_cases h1 : w < 0
  · have H := Lib.hid (show ((clampW w : Nat) : Int) = 0 from by unfold clampW; omega)
    go_enter Tryz.func142, Tryz.ntmps142
    go_wp2
    go_ret
    exact ⟨ret_int H.out.symm, rfl⟩
  · by_cases h2 : 8 < w
    · have H := Lib.hid (show ((clampW w : Nat) : Int) = 8 from by unfold clampW; omega)
      go_enter Tryz.func142, Tryz.ntmps142
      go_wp2
      go_ret
      exact ⟨ret_int H.out.symm, rfl⟩
    · have H := Lib.hid (show ((clampW w : Nat) : Int) = w from by unfold clampW; omega)
      go_enter Tryz.func142, Tryz.ntmps142
      go_wp2
      go_ret
      exact ⟨ret_int H.out.symm, rfl⟩

set_option maxRecDepth 100000 in
set_option maxHeartbeats 1000000 in
theorem fldPut1 (n k s g B N c : Nat) (l : List UInt8) (W : World) (hn : n < 18446744073709551616) (hs : s = 8 * (c - 1 - k)) (hk : k < c) (hc : c ≤ 8) (hN : Box 26 W N [.int .u64 (n : Int)]) (hB : Box 108 W B [.slice (some ⟨g, 0, none⟩) c c]) (hR : BRow W g l) (hl : l.length = c) :
    Calls Tryz.prog 143 #[.int .i64 (k : Int), .int .i64 (s : Int), .pointer (some ⟨N, 0, none⟩), .pointer (some ⟨B, 0, none⟩)] W fun e W' =>
      e = .returned (.tuple #[]) ∧ W' = (W.setCell ⟨g, k, none⟩ (.int .u8 ((UInt8.ofNat (n / 2 ^ s)).toNat : Int))).drew := by
  have c0 := hN.cell 0 rfl
  have c1 := hB.cell 0 rfl
  have c2 := hR.cell (j := k) (by omega)
  have c3 := hR.frozen (j := k) (by omega)
  have s1 : (s : Int) < 64 := by omega
  have hv : ((n : Int) / 2 ^ s % 256) = ((UInt8.ofNat (n / 2 ^ s)).toNat : Int) := by rw [UInt8.toNat_ofNat']; simp
  have HV := Lib.hid hv
  clear hs hl hR hB hN hv
  go_enter Tryz.func143, Tryz.ntmps143
  go_wp2
  go_region
  go_end0
  rw [HV.out]
  exact ⟨rfl, rfl⟩

set_option maxRecDepth 100000 in
set_option maxHeartbeats 1000000 in
theorem fldGet1 (m k s B N : Nat) (t : ByteArray) (W : World) (hm : m < 18446744073709551616) (hs : s = 8 * (t.size - 1 - k)) (hk : k < t.size) (hc : t.size ≤ 8) (hN : Box 26 W N [.int .u64 (m : Int)]) (hB : Box 9 W B [.string t]) :
    Calls Tryz.prog 138 #[.int .i64 (k : Int), .int .i64 (s : Int), .pointer (some ⟨N, 0, none⟩), .pointer (some ⟨B, 0, none⟩)] W fun e W' =>
      e = .returned (.tuple #[]) ∧ W' = (W.setCell ⟨N, 0, none⟩ (.int .u64 ((m ||| t[k].toNat * 2 ^ s : Nat) : Int))).drew := by
  have c0 := hN.cell 0 rfl
  have z0 := hN.frozen 0
  have c1 := hB.cell 0 rfl
  have s1 : (s : Int) < 64 := by omega
  have hb := t[k].toNat_lt
  have hlt : t[k].toNat * 2 ^ s < 18446744073709551616 := by
    have h1 : 2 ^ s ≤ 2 ^ 56 := Nat.pow_le_pow_right (by decide) (by omega)
    have h2 : t[k].toNat * 2 ^ s ≤ 255 * 2 ^ 56 := Nat.mul_le_mul (by omega) h1
    omega
  have hv : bits .or .u64 (m : Int) (IntKind.u64.wrap (IntKind.u64.wrap (t[k].toNat : Int) * 2 ^ s)) = ((m ||| t[k].toNat * 2 ^ s : Nat) : Int) := by
    have e0 : IntKind.u64.wrap (t[k].toNat : Int) = (t[k].toNat : Int) := by
      simp [IntKind.wrap, IntKind.signed, IntKind.bits]
      omega
    have e : IntKind.u64.wrap ((t[k].toNat : Int) * 2 ^ s) = ((t[k].toNat * 2 ^ s : Nat) : Int) := by
      simp [IntKind.wrap, IntKind.signed, IntKind.bits]
      have : ((t[k].toNat * 2 ^ s : Nat) : Int) % 18446744073709551616 = ((t[k].toNat * 2 ^ s : Nat) : Int) := by omega
      simpa using this
    rw [e0, e, u64_or_nat _ _ hm hlt]
  have HV := Lib.hid hv
  clear hs hB hN hv hb hlt
  go_enter Tryz.func138, Tryz.ntmps138
  go_wp2
  go_region
  go_end0
  rw [HV.out]
  exact ⟨rfl, rfl⟩

set_option maxRecDepth 100000 in
set_option maxHeartbeats 1000000 in
theorem fldEachPut (n c g B N : Nat) (W : World) (hn : n < 18446744073709551616) (hc : c ≤ 8) (hN : Box 26 W N [.int .u64 (n : Int)]) (hB : Box 108 W B [.slice (some ⟨g, 0, none⟩) c c]) (hR : BRow W g (fillP n c 0)) (h1 : g ≠ N) (h2 : g ≠ B) :
    Calls Tryz.prog 137 #[.int .i64 (c : Int), .func (.func 143) #[] #[.pointer (some ⟨N, 0, none⟩), .pointer (some ⟨B, 0, none⟩)]] W fun e W' =>
      e = .returned (.tuple #[]) ∧ BRow W' g (putL n c) ∧ Box 108 W' B [.slice (some ⟨g, 0, none⟩) c c] ∧ Below g W W' := by
  go_enter Tryz.func137, Tryz.ntmps137
  go_wp2
  go_loopw [6] (fun i w => ∃ k : Nat, k ≤ c ∧ i = .int .i64 k ∧ BRow w g (fillP n c k) ∧ Box 26 w N [.int .u64 (n : Int)] ∧ Box 108 w B [.slice (some ⟨g, 0, none⟩) c c] ∧ Below g W w)
    (fun i _ => c - (intOf i).toNat)
  case atStart => exact ⟨0, by omega, rfl, hR, hN, hB, Below.refl _ _⟩
  case round =>
    obtain ⟨k, hk, rfl, hRr, hNr, hBr, hbr⟩ := hrel
    clear hN hB hR
    by_cases hlt : k < c
    · have hl := fillP_length (n := n) (w := c) hk
      have hx := fillP_set (n := n) hlt
      rw [show (256 : Nat) ^ (c - 1 - k) = 2 ^ (8 * (c - 1 - k)) from by rw [show (256 : Nat) = 2 ^ 8 from rfl, ← Nat.pow_mul]] at hx
      have HX := Lib.hid hx
      have HL := Lib.hid hl
      clear hx hl
      go_wp2_with fail
      rw [show (8 * ((c : Int) - 1 - (k : Int))) = ((8 * (c - 1 - k) : Nat) : Int) from by omega]
      refine (fldPut1 n k _ g B N c _ _ hn rfl hlt hc hNr hBr hRr HL.out).mono ?_
      rintro e w' ⟨rfl, rfl⟩
      have hRs := (hRr.set (k := k) (by rw [HL.out]; exact hlt) (UInt8.ofNat (n / 2 ^ (8 * (c - 1 - k))))).drew
      have hNs := (hNr.other h1 k (.int .u8 ((UInt8.ofNat (n / 2 ^ (8 * (c - 1 - k)))).toNat : Int))).drew
      have hBs := (hBr.other h2 k (.int .u8 ((UInt8.ofNat (n / 2 ^ (8 * (c - 1 - k)))).toNat : Int))).drew
      have hbs := (hbr.setCell (p := ⟨g, k, none⟩) (Nat.le_refl g) (.int .u8 ((UInt8.ofNat (n / 2 ^ (8 * (c - 1 - k)))).toNat : Int))).drew
      rw [HX.out] at hRs
      generalize (wr.setCell ⟨g, k, none⟩ (.int .u8 ((UInt8.ofNat (n / 2 ^ (8 * (c - 1 - k)))).toNat : Int))).drew = V at *
      clear hRr hNr hBr hbr HX HL
      go_wp2
      go_roundw
      case rel => exact ⟨k + 1, by omega, by go_num, hRs, hNs, hBs, hbs⟩
      case measure => simp [intOf]; omega
    · obtain rfl : k = c := by omega
      rw [fillP_all] at hRr
      go_wp2
      go_end0
      exact ⟨rfl, hRr, hBr, hbr⟩

set_option maxRecDepth 100000 in
set_option maxHeartbeats 1000000 in
theorem fldEachGet (t : ByteArray) (B N n0 : Nat) (W : World) (hc : t.size ≤ 8) (hN : Box 26 W N [.int .u64 0]) (hB : Box 9 W B [.string t]) (h1 : N ≠ B) (h2 : n0 ≤ N) :
    Calls Tryz.prog 137 #[.int .i64 (t.size : Int), .func (.func 138) #[] #[.pointer (some ⟨N, 0, none⟩), .pointer (some ⟨B, 0, none⟩)]] W fun e W' =>
      e = .returned (.tuple #[]) ∧ Box 26 W' N [.int .u64 ((getN (bl t) : Nat) : Int)] ∧ Below n0 W W' := by
  go_enter Tryz.func137, Tryz.ntmps137
  go_wp2
  go_loopw [6] (fun i w => ∃ k : Nat, k ≤ t.size ∧ i = .int .i64 k ∧ Box 26 w N [.int .u64 ((fillG (bl t) k : Nat) : Int)] ∧ Box 9 w B [.string t] ∧ Below n0 W w)
    (fun i _ => t.size - (intOf i).toNat)
  case atStart => exact ⟨0, by omega, rfl, by rw [fillG_zero]; exact hN, hB, Below.refl _ _⟩
  case round =>
    obtain ⟨k, hk, rfl, hNr, hBr, hbr⟩ := hrel
    clear hN hB
    by_cases hlt : k < t.size
    · have hlb : (bl t).length = t.size := bl_length t
      have hgl := fillG_lt (bl t) k (by omega)
      have hg8 : fillG (bl t) k < 18446744073709551616 := Nat.lt_of_lt_of_le hgl (by rw [hlb]; exact pow256_le hc)
      have HX := Lib.hid (fillG_text t k hlt)
      clear hgl hlb
      go_wp2_with fail
      rw [show (8 * ((t.size : Int) - 1 - (k : Int))) = ((8 * (t.size - 1 - k) : Nat) : Int) from by omega]
      refine (fldGet1 (fillG (bl t) k) k _ B N t _ hg8 rfl hlt hc hNr hBr).mono ?_
      rintro e w' ⟨rfl, rfl⟩
      rw [HX.out]
      have hNs := (hNr.set 0 (.int .u64 ((fillG (bl t) (k + 1) : Nat) : Int))).drew
      have hBs := (hBr.other h1 0 (.int .u64 ((fillG (bl t) (k + 1) : Nat) : Int))).drew
      have hbs := (hbr.setCell (p := ⟨N, 0, none⟩) h2 (.int .u64 ((fillG (bl t) (k + 1) : Nat) : Int))).drew
      generalize (wr.setCell ⟨N, 0, none⟩ (.int .u64 ((fillG (bl t) (k + 1) : Nat) : Int))).drew = V at *
      clear hNr hBr hbr HX hg8
      go_wp2
      go_roundw
      case rel => exact ⟨k + 1, by omega, by go_num, hNs, hBs, hbs⟩
      case measure => simp [intOf]; omega
    · obtain rfl : k = t.size := by omega
      rw [← bl_length t, fillG_all] at hNr
      go_wp2
      go_end0
      exact ⟨rfl, hNr, hbr⟩

set_option maxRecDepth 100000 in
set_option maxHeartbeats 1000000 in
theorem own06Put (n : BitVec 64) (w : Int) (W : World) : Calls Tryz.prog 136 #[.int .u64 (n.toNat : Int), .int .i64 w] W fun e W' => e = .returned (.string (putB n.toNat w)) ∧ Below W.heap.size W W' := by
  obtain ⟨i0, hi, hz0, hz1, hz2⟩ := info_parts fld_u8
  have hn := n.isLt
  have hc : clampW w ≤ 8 := by unfold clampW; omega
  have HP := Lib.hid (show putB n.toNat w = bs (putL n.toNat (clampW w)) from rfl)
  have hN := Box.new 26 W [.int .u64 (n.toNat : Int)]
  have hb0 : Below W.heap.size W (W.alloc (.cells #[.int .u64 (n.toNat : Int)] 26)) := (Below.refl _ _).alloc (Nat.le_refl _) _
  have T := Lib.hid (fun W => fldHeld w W)
  obtain ⟨c, hcw⟩ : ∃ c, clampW w = c := ⟨_, rfl⟩
  rw [hcw] at hc HP T
  clear hcw
  go_enter Tryz.func136, Tryz.ntmps136
  go_wp2_with (first | (go_at_call 142; refine (T.out _).mono ?_; rintro e w' ⟨rfl, rfl⟩) | (refine wpList_make_full _ rfl _ _ 108 rfl W.heap.size 5 i0 (.int .u8 0) 1 Tryz.underlying108 hi hz0 hz1 .i64 .i64 _ _ c rfl rfl rfl rfl (by rw [hz2]; omega) (by unfold maxLen; omega) (by simp) ?_; intro w1 hown hg1))
  have hb1 : Below W.heap.size W w1 := hb0.grown hg1 (by simp) (fun k e => by cases e)
  have hN1 : Box 26 w1 W.heap.size [.int .u64 (n.toNat : Int)] := (hg1.block W.heap.size (by simp) (fun e => by cases e)).trans hN
  rw [show madeCells (Value.int .u8 0).cells (c * 1) = madeCells #[.int .u8 0] c from by simp [Value.cells], toList_madeCells_one] at hown
  have hz : (fillP n.toNat c 0).map b8v = List.replicate c (.int .u8 0) := by rw [fillP_zero]; simp [b8v]
  rw [← hz] at hown
  have hR := own_brow hown (fillP_length (Nat.zero_le _))
  clear hz hown hg1 hb0 hN
  rw [World.size_alloc] at hR
  have hgl := hR.1
  have hb3 := hb1.alloc hb1.size (.cells #[.slice (some ⟨W.heap.size + 1, 0, none⟩) c c] 108)
  refine (fldEachPut n.toNat c (W.heap.size + 1) w1.heap.size W.heap.size _ hn hc (hN1.alloc _) (Box.new _ w1 _) (hR.alloc _) (by omega) (by omega)).mono ?_
  rintro e w' ⟨rfl, hR2, hB2, hb2⟩
  have hb := hb3.trans (hb2.mono (by omega))
  have c1 := hB2.cell 0 rfl
  have hcv := hR2.string (P := Tryz.prog) (src := 108) (dst := 9) (e := 5) Tryz.underlying108 Tryz.underlying5 Tryz.underlying9 c
  rw [putL_length, ← HP.out] at hcv
  clear hb3 hb1 hb2 hR2 hB2 hN1 hR
  go_wp2
  go_ret
  exact ⟨rfl, hb⟩

theorem getB_last {s : ByteArray} (h : 8 ≤ s.size) : getN (bl (s.extract (s.size - 8) s.size)) = getB s := by
  have h1 : bl s = (bl s).take (s.size - 8) ++ bl (s.extract (s.size - 8) s.size) := by
    rw [bl_extract, List.take_of_length_le (i := s.size) (l := bl s) (by rw [bl_length]; omega), List.take_append_drop]
  have hz : (bl (s.extract (s.size - 8) s.size)).length = 8 := by rw [bl_length]; simp; omega
  have hl := getN_lt (bl (s.extract (s.size - 8) s.size))
  rw [hz] at hl
  rw [getB, h1, getN_append, hz]
  generalize getN (bl (s.extract (s.size - 8) s.size)) = x at *
  generalize getN (List.take (s.size - 8) (bl s)) = y at *
  omega

set_option maxRecDepth 100000 in
set_option maxHeartbeats 1000000 in
theorem own06Get (s : ByteArray) (W : World) (hs : s.size ≤ maxLen) : Calls Tryz.prog 131 #[.string s] W fun e W' => e = .returned (.int .u64 (getB s : Int)) ∧ Below W.heap.size W W' := by
  unfold maxLen at hs
  by_cases h8 : 8 ≤ s.size
  · have HG := Lib.hid (getB_last h8)
    have hz : (s.extract (s.size - 8) s.size).size = 8 := by simp; omega
    generalize ht : s.extract (s.size - 8) s.size = t at *
    have HT := Lib.hid ht
    clear ht
    go_enter Tryz.func131, Tryz.ntmps131
    go_wp2_with fail
    rw [HT.out, show s.size - (s.size - 8) = t.size from by omega]
    have hN := Box.new 26 (W.alloc (.cells #[.string t] 9)) [.int .u64 0]
    have hB := (Box.new 9 W [.string t]).alloc (.cells #[.int .u64 0] 26)
    have hb := ((Below.refl W.heap.size W).alloc (Nat.le_refl _) (.cells #[.string t] 9)).alloc (by simp) (.cells #[.int .u64 0] 26)
    rw [World.size_alloc] at hN
    refine (fldEachGet t W.heap.size (W.heap.size + 1) W.heap.size _ (by omega) hN hB (by omega) (by omega)).mono ?_
    rintro e w' ⟨rfl, hN2, hb2⟩
    have hb3 := hb.trans hb2
    rw [HG.out] at hN2
    have c0 := hN2.cell 0 rfl
    clear hN hB hb hb2 hN2
    go_wp2
    go_ret
    exact ⟨rfl, hb3⟩
  · have HG := Lib.hid (show getN (bl s) = getB s from (getB_small (by omega)).symm)
    obtain ⟨t, rfl⟩ : ∃ t, t = s := ⟨_, rfl⟩
    go_enter Tryz.func131, Tryz.ntmps131
    go_wp2_with fail
    have hN := Box.new 26 (W.alloc (.cells #[.string t] 9)) [.int .u64 0]
    have hB := (Box.new 9 W [.string t]).alloc (.cells #[.int .u64 0] 26)
    have hb := ((Below.refl W.heap.size W).alloc (Nat.le_refl _) (.cells #[.string t] 9)).alloc (by simp) (.cells #[.int .u64 0] 26)
    rw [World.size_alloc] at hN
    refine (fldEachGet t W.heap.size (W.heap.size + 1) W.heap.size _ (by omega) hN hB (by omega) (by omega)).mono ?_
    rintro e w' ⟨rfl, hN2, hb2⟩
    have hb3 := hb.trans hb2
    rw [HG.out] at hN2
    have c0 := hN2.cell 0 rfl
    clear hN hB hb hb2 hN2
    go_wp2
    go_ret
    exact ⟨rfl, hb3⟩

theorem u64_wrap (x : Int) : IntKind.u64.wrap x = x % 18446744073709551616 := by simp [IntKind.wrap, IntKind.signed, IntKind.bits]
theorem signed_0 (n : Nat) (w : Int) (hn : n < 18446744073709551616) (hc : clampW w = 0) : wrap64 (IntKind.u64.wrap ((n : Int) * 18446744073709551616)) / 18446744073709551616 = signedI n w := by
  unfold signedI
  rw [if_pos (by unfold clampW at hc; omega), u64_wrap]
  unfold wrap64
  omega
theorem signed_1 (n : Nat) (w : Int) (hn : n < 18446744073709551616) (hc : clampW w = 1) : wrap64 (IntKind.u64.wrap ((n : Int) * 72057594037927936)) / 72057594037927936 = signedI n w := by
  unfold signedI
  rw [if_neg (by unfold clampW at hc; omega), hc, show (256 : Nat) ^ 1 = 256 from rfl, u64_wrap]
  unfold wrap64
  split <;> omega
theorem signed_2 (n : Nat) (w : Int) (hn : n < 18446744073709551616) (hc : clampW w = 2) : wrap64 (IntKind.u64.wrap ((n : Int) * 281474976710656)) / 281474976710656 = signedI n w := by
  unfold signedI
  rw [if_neg (by unfold clampW at hc; omega), hc, show (256 : Nat) ^ 2 = 65536 from rfl, u64_wrap]
  unfold wrap64
  split <;> omega
theorem signed_3 (n : Nat) (w : Int) (hn : n < 18446744073709551616) (hc : clampW w = 3) : wrap64 (IntKind.u64.wrap ((n : Int) * 1099511627776)) / 1099511627776 = signedI n w := by
  unfold signedI
  rw [if_neg (by unfold clampW at hc; omega), hc, show (256 : Nat) ^ 3 = 16777216 from rfl, u64_wrap]
  unfold wrap64
  split <;> omega
theorem signed_4 (n : Nat) (w : Int) (hn : n < 18446744073709551616) (hc : clampW w = 4) : wrap64 (IntKind.u64.wrap ((n : Int) * 4294967296)) / 4294967296 = signedI n w := by
  unfold signedI
  rw [if_neg (by unfold clampW at hc; omega), hc, show (256 : Nat) ^ 4 = 4294967296 from rfl, u64_wrap]
  unfold wrap64
  split <;> omega
theorem signed_5 (n : Nat) (w : Int) (hn : n < 18446744073709551616) (hc : clampW w = 5) : wrap64 (IntKind.u64.wrap ((n : Int) * 16777216)) / 16777216 = signedI n w := by
  unfold signedI
  rw [if_neg (by unfold clampW at hc; omega), hc, show (256 : Nat) ^ 5 = 1099511627776 from rfl, u64_wrap]
  unfold wrap64
  split <;> omega
theorem signed_6 (n : Nat) (w : Int) (hn : n < 18446744073709551616) (hc : clampW w = 6) : wrap64 (IntKind.u64.wrap ((n : Int) * 65536)) / 65536 = signedI n w := by
  unfold signedI
  rw [if_neg (by unfold clampW at hc; omega), hc, show (256 : Nat) ^ 6 = 281474976710656 from rfl, u64_wrap]
  unfold wrap64
  split <;> omega
theorem signed_7 (n : Nat) (w : Int) (hn : n < 18446744073709551616) (hc : clampW w = 7) : wrap64 (IntKind.u64.wrap ((n : Int) * 256)) / 256 = signedI n w := by
  unfold signedI
  rw [if_neg (by unfold clampW at hc; omega), hc, show (256 : Nat) ^ 7 = 72057594037927936 from rfl, u64_wrap]
  unfold wrap64
  split <;> omega
theorem signed_8 (n : Nat) (w : Int) (hn : n < 18446744073709551616) (hc : clampW w = 8) : wrap64 (n : Int) = signedI n w := by
  unfold signedI
  rw [if_neg (by unfold clampW at hc; omega), hc, show (256 : Nat) ^ 8 = 18446744073709551616 from rfl]
  unfold wrap64
  split <;> omega

end Go.Proofs.YthmpjoiifglbjaaGreat

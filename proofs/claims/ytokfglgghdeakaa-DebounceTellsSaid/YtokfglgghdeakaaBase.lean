/- Plain words on bytes and bits that the proofs of layer 1 share: no statement is proved here. -/
import Derived.WalkKit
import Derived.Laws.BitsAllLaws
import Derived.Laws.AppendOwn
import Derived.Laws.BytesString
import Derived.Laws.Cells
import Derived.Deep.Draws
namespace Go.Proofs.Ytokfglgghdeakaa
open Go.RowKit
set_option linter.unusedVariables false

/-- A text's bytes. -/
def bl (s : ByteArray) : List UInt8 := s.data.toList
/-- The byte at a place; another one behind the end. -/
def gd (s : List UInt8) (i : Nat) (d : UInt8) : UInt8 := s[i]?.getD d
def gdI (s : ByteArray) (i : Nat) (d : Int) : Int := if h : i < s.size then (s[i].toNat : Int) else d
/-- A text of bytes. -/
def bs (l : List UInt8) : ByteArray := ⟨l.toArray⟩
theorem bl_bs (l : List UInt8) : bl (bs l) = l := by simp [bl, bs]
theorem bs_bl (s : ByteArray) : bs (bl s) = s := ByteArray.ext (by show s.data.toList.toArray = s.data; exact Array.toArray_toList)
theorem bl_length (s : ByteArray) : (bl s).length = s.size := by show s.data.toList.length = s.data.size; exact Array.length_toList
theorem bs_size (l : List UInt8) : (bs l).size = l.length := by show l.toArray.size = _; exact List.size_toArray
theorem bl_inj {s t : ByteArray} (h : bl s = bl t) : s = t := by rw [← bs_bl s, h, bs_bl]

theorem gd_in (s : ByteArray) (i : Nat) (d : UInt8) (h : i < s.size) : gd (bl s) i d = s[i] := by
  have h' : i < (bl s).length := by rw [bl_length]; exact h
  rw [gd, List.getElem?_eq_getElem h']
  rfl
theorem gd_out (s : ByteArray) (i : Nat) (d : UInt8) (h : ¬ i < s.size) : gd (bl s) i d = d := by
  have h' : (bl s).length ≤ i := by rw [bl_length]; omega
  simp [gd, List.getElem?_eq_none h']
theorem gdI_eq (s : ByteArray) (i : Nat) (d : UInt8) : gdI s i (d.toNat : Int) = ((gd (bl s) i d).toNat : Int) := by
  unfold gdI
  by_cases h : i < s.size
  · rw [dif_pos h, gd_in s i d h]
  · rw [dif_neg h, gd_out s i d h]
theorem gdI_255 (s : ByteArray) (i : Nat) : gdI s i 255 = ((gd (bl s) i 255).toNat : Int) := gdI_eq s i 255
theorem gdI_0 (s : ByteArray) (i : Nat) : gdI s i 0 = ((gd (bl s) i 0).toNat : Int) := gdI_eq s i 0

/-- The bits of bytes, behind names that the walk does not open. -/
def band (a b : UInt8) : UInt8 := a &&& b
def bor (a b : UInt8) : UInt8 := a ||| b
def bnot (a : UInt8) : UInt8 := ~~~a
def bandn (a b : UInt8) : UInt8 := a &&& ~~~b
theorem b8_and (a b : UInt8) : bits .and .u8 (a.toNat : Int) (b.toNat : Int) = ((band a b).toNat : Int) := by
  rw [u8_and_nat _ _ a.toNat_lt b.toNat_lt, band, UInt8.toNat_and]
theorem b8_or (a b : UInt8) : bits .or .u8 (a.toNat : Int) (b.toNat : Int) = ((bor a b).toNat : Int) := by
  rw [u8_or_nat _ _ a.toNat_lt b.toNat_lt, bor, UInt8.toNat_or]
theorem b8_nots (b : UInt8) : (~~~b).toNat = 255 - b.toNat := by
  rw [UInt8.toNat_not]; have := b.toNat_lt; simp [UInt8.size]
theorem b8_andNot (a b : UInt8) : bits .andNot .u8 (a.toNat : Int) (b.toNat : Int) = ((bandn a b).toNat : Int) := by
  rw [u8_andNot_nat _ _ a.toNat_lt b.toNat_lt, bandn, UInt8.toNat_and, b8_nots]
theorem b8_xorAll (b : UInt8) : bits .xor .u8 IntKind.u8.max (b.toNat : Int) = ((bnot b).toNat : Int) := by
  rw [show IntKind.u8.max = ((255 : Nat) : Int) from rfl, u8_xor_nat _ _ (by decide) b.toNat_lt, bnot, b8_nots]
  congr 1
  have h : ∀ x : Fin 256, 255 ^^^ x.1 = 255 - x.1 := by decide +kernel
  exact h ⟨b.toNat, b.toNat_lt⟩
theorem b8_toNat_lt (a : UInt8) : (a.toNat : Int) < 256 := by have := a.toNat_lt; omega

theorem push_foldl (l : List UInt8) (s : ByteArray) : (l.map (fun b : UInt8 => (b.toNat : Int))).foldl (fun r n => r.push (UInt8.ofNat n.toNat)) s = ⟨s.data ++ l.toArray⟩ := by
  induction l generalizing s with
  | nil => simp
  | cons b l ih =>
    simp only [List.map_cons, List.foldl_cons, ih]
    simp [ByteArray.push]

def b8v (b : UInt8) : Value := .int .u8 (b.toNat : Int)

/-- A row of bytes of the call's own, as a text. -/
theorem owns_string {P : Program} {w : World} {base : Nat} {src dst e : TypeId} {v : Value} {n : Nat} {l : List UInt8}
    (hs : P.underlying src = some (.slice e)) (he : P.underlying e = some (.int .u8)) (hd : P.underlying dst = some .string)
    (h : w.ownsRow base e 1 v n (l.map b8v)) : (convert src dst v).run P w = .ok (.string (bs l)) w := by
  have h0 := h
  obtain ⟨hl, h⟩ := h
  have hl' : l.length = n := by simpa using hl
  rcases h with ⟨rfl, rfl⟩ | ⟨g, cap, cur, rfl, hb, hg, hn, hc, hcs, hx⟩
  · rw [run_convert_bytes_string w src dst e none 0 0 hs he hd]
    obtain rfl : l = [] := List.length_eq_zero_iff.1 hl'
    rfl
  · rw [run_convert_bytes_string w src dst e _ _ _ hs he hd]
    rw [run_bytesToString w ⟨g, 0, none⟩ n cap (l.map fun b => (b.toNat : Int))]
    · rw [push_foldl]
      exact congrArg (fun x => Result.ok (Value.string x) w) (ByteArray.ext (by show (#[] : Array UInt8) ++ l.toArray = l.toArray; exact Array.empty_append))
    · have := run_loadCells_list (P := P) (w := w) ⟨g, 0, none⟩ (l.map b8v) (h0.cells rfl)
      rw [List.length_map, hl'] at this
      rw [this]
      simp [b8v, Function.comp_def]

/-- What has come when k rounds are over. -/
def upto {α : Type} (f : Nat → α) (k : Nat) : List α := (List.range k).map f
theorem upto_zero {α : Type} (f : Nat → α) : upto f 0 = [] := rfl
theorem upto_succ {α : Type} (f : Nat → α) (k : Nat) : upto f (k + 1) = upto f k ++ [f k] := by simp [upto, List.range_succ]
theorem upto_length {α : Type} (f : Nat → α) (k : Nat) : (upto f k).length = k := by simp [upto]
theorem upto_get {α : Type} (f : Nat → α) (k i : Nat) (h : i < k) : (upto f k)[i]? = some (f i) := by simp [upto, h]

/-- One byte that is torn, as the reference says it. -/
def tb (o w m : UInt8) : UInt8 := bor (band (band o w) m) (bandn o m)
def tornF (o w m : List UInt8) (i : Nat) : UInt8 := tb (gd o i 0) (gd w i 255) (gd m i 0)
def tornL (o w m : List UInt8) : List UInt8 := upto (tornF o w m) o.length
def andF (o w : List UInt8) (i : Nat) : UInt8 := band (gd o i 0) (gd w i 255)
def andL (o w : List UInt8) : List UInt8 := upto (andF o w) o.length
/-- The bit of a byte at a place, as a number. -/
def bitI (x : UInt8) (b : Nat) : Nat := x.toNat / 2 ^ b % 2
theorem bitI_lt (x : UInt8) (b : Nat) : bitI x b < 2 := by unfold bitI; omega
theorem b8_bit (x : UInt8) (b : Nat) : bits .and .u8 ((x.toNat : Int) / 2 ^ b) 1 = (bitI x b : Int) := by
  have h : (x.toNat : Int) / 2 ^ b = ((x.toNat / 2 ^ b : Nat) : Int) := by simp
  have hl : x.toNat / 2 ^ b < 256 := Nat.lt_of_le_of_lt (Nat.div_le_self _ _) x.toNat_lt
  rw [h, show (1 : Int) = ((1 : Nat) : Int) from rfl, u8_and_nat _ _ hl (by decide), nat_mask1]; rfl
/-- How many bits of a byte are 1. -/
def pop (x : UInt8) : Nat := bitI x 0 + bitI x 1 + bitI x 2 + bitI x 3 + bitI x 4 + bitI x 5 + bitI x 6 + bitI x 7
def mayF (o w g : List UInt8) (i : Nat) : Bool := bor (bandn (gd g i 0) (gd o i 0)) (bandn (band (gd o i 0) (gd w i 255)) (gd g i 0)) == 0
def mayL (o w g : List UInt8) : Bool := decide (g.length = o.length) && (List.range o.length).all (mayF o w g)
def bitsF (o g : List UInt8) (i : Nat) : Nat := pop (bandn (gd o i 0) (gd g i 255))
def bitsTo (o g : List UInt8) (k : Nat) : Nat := ((List.range k).map (bitsF o g)).sum
def bitsL (o g : List UInt8) : Nat := bitsTo o g o.length
theorem bitsTo_succ (o g : List UInt8) (k : Nat) : bitsTo o g (k + 1) = bitsTo o g k + bitsF o g k := by simp [bitsTo, List.range_succ]
theorem pop_le (x : UInt8) : pop x ≤ 8 := by unfold pop bitI; omega
theorem bitsTo_le (o g : List UInt8) (k : Nat) : bitsTo o g k ≤ 8 * k := by
  induction k with
  | zero => simp [bitsTo]
  | succ k ih => rw [bitsTo_succ]; have := pop_le (bandn (gd o k 0) (gd g k 255)); unfold bitsF; omega
theorem tornL_length (o w m : List UInt8) : (tornL o w m).length = o.length := upto_length _ _
theorem andL_length (o w : List UInt8) : (andL o w).length = o.length := upto_length _ _
/-- The texts that the calls hand back. -/
def tornB (o w m : ByteArray) : ByteArray := bs (tornL (bl o) (bl w) (bl m))
def andB (o w : ByteArray) : ByteArray := bs (andL (bl o) (bl w))
theorem tornB_size (o w m : ByteArray) : (tornB o w m).size = o.size := by rw [tornB, bs_size, tornL_length, bl_length]
theorem andB_size (o w : ByteArray) : (andB o w).size = o.size := by rw [andB, bs_size, andL_length, bl_length]
theorem own_drewN' {w : World} {B e size n : Nat} {v : Value} {xs : List Value} (h : w.ownsRow B e size v n xs) (q : Nat) : (w.drewN q).ownsRow B e size v n xs := h
theorem below_drewN0 {B : Nat} {a w : World} (h : Below B a w) (q : Nat) : Below B a (w.drewN q) := ⟨h.os, h.tape, h.output, h.size, h.block⟩

/-- The bit of a byte at a place. -/
def tB (x : UInt8) (b : Nat) : Bool := x.toNat.testBit b
theorem bitI_eq (x : UInt8) (b : Nat) : bitI x b = (tB x b).toNat := by
  unfold bitI tB
  rw [Nat.testBit_eq_decide_div_mod_eq]
  have := Nat.mod_two_eq_zero_or_one (x.toNat / 2 ^ b)
  rcases this with h | h <;> rw [h] <;> rfl
theorem tB_band (x y : UInt8) (b : Nat) : tB (band x y) b = (tB x b && tB y b) := by
  unfold tB band; rw [UInt8.toNat_and, Nat.testBit_and]
theorem tB_bor (x y : UInt8) (b : Nat) : tB (bor x y) b = (tB x b || tB y b) := by
  unfold tB bor; rw [UInt8.toNat_or, Nat.testBit_or]
theorem tB_not (y : UInt8) (b : Nat) (h : b < 8) : (~~~y).toNat.testBit b = !y.toNat.testBit b := by
  rw [b8_nots, show 255 - y.toNat = 2 ^ 8 - (y.toNat + 1) from by omega, Nat.testBit_two_pow_sub_succ y.toNat_lt]
  simp [h]
theorem tB_bnot (x : UInt8) (b : Nat) (h : b < 8) : tB (bnot x) b = !tB x b := by
  unfold tB bnot; rw [tB_not x b h]
theorem tB_bandn (x y : UInt8) (b : Nat) (h : b < 8) : tB (bandn x y) b = (tB x b && !tB y b) := by
  unfold tB bandn; rw [UInt8.toNat_and, Nat.testBit_and, tB_not y b h]
theorem tB_zero (b : Nat) : tB 0 b = false := by unfold tB; simp
theorem tB_255 (b : Nat) (h : b < 8) : tB 255 b = true := by
  unfold tB
  rw [show (255 : UInt8).toNat = 2 ^ 8 - 1 from rfl, Nat.testBit_two_pow_sub_one]; simp [h]
theorem ext8 {x y : UInt8} (h : ∀ b, b < 8 → tB x b = tB y b) : x = y := by
  apply UInt8.toNat_inj.1
  apply Nat.eq_of_testBit_eq
  intro b
  by_cases hb : b < 8
  · exact h b hb
  · have h8 : 2 ^ 8 ≤ 2 ^ b := Nat.pow_le_pow_right (by decide) (by omega)
    rw [Nat.testBit_lt_two_pow (Nat.lt_of_lt_of_le x.toNat_lt h8), Nat.testBit_lt_two_pow (Nat.lt_of_lt_of_le y.toNat_lt h8)]
/-- How many of a byte's first bits are 1. -/
def popTo (x : UInt8) (b : Nat) : Nat := ((List.range b).map (bitI x)).sum
theorem popTo_succ (x : UInt8) (b : Nat) : popTo x (b + 1) = popTo x b + bitI x b := by simp [popTo, List.range_succ]
theorem popTo_8 (x : UInt8) : popTo x 8 = pop x := by simp [popTo, pop, List.range_succ, Nat.add_assoc]
theorem popTo_le (x : UInt8) (b : Nat) : popTo x b ≤ b := by
  induction b with
  | zero => simp [popTo]
  | succ b ih => rw [popTo_succ]; have := bitI_lt x b; omega
theorem bitI_bandn (x y : UInt8) (b : Nat) (h : b < 8) : bitI (bandn x y) b = if bitI x b = 1 ∧ bitI y b = 0 then 1 else 0 := by
  rw [bitI_eq, bitI_eq, bitI_eq, tB_bandn x y b h]
  cases tB x b <;> cases tB y b <;> rfl

theorem b8_bitand (x y : UInt8) (b : Nat) : bits .and .u8 (bitI x b : Int) (bitI y b : Int) = (bitI (band x y) b : Int) := by
  rw [u8_and_nat _ _ (by have := bitI_lt x b; omega) (by have := bitI_lt y b; omega), bitI_eq, bitI_eq, bitI_eq, tB_band]
  cases tB x b <;> cases tB y b <;> rfl
theorem bitI_inj (x y : UInt8) (b : Nat) : bitI x b = bitI y b ↔ tB x b = tB y b := by
  rw [bitI_eq, bitI_eq]
  cases tB x b <;> cases tB y b <;> decide
/-- Whether a bit may come of another one. -/
def okB (o w g : UInt8) (b : Nat) : Bool := decide (bitI g b = bitI o b) || decide (bitI g b = bitI (band o w) b)
def mayB (o w g : UInt8) : Bool := bor (bandn g o) (bandn (band o w) g) == 0
theorem mayB_iff (o w g : UInt8) : mayB o w g = true ↔ ∀ b, b < 8 → okB o w g b = true := by
  unfold mayB
  rw [beq_iff_eq]
  constructor
  · intro h b hb
    have := congrArg (tB · b) h
    simp only [tB_bor, tB_bandn _ _ _ hb, tB_band, tB_zero] at this
    simp only [okB, bitI_inj, tB_band]
    revert this
    cases tB o b <;> cases tB w b <;> cases tB g b <;> decide
  · intro h
    apply ext8
    intro b hb
    have := h b hb
    simp only [okB, bitI_inj, tB_band] at this
    simp only [tB_bor, tB_bandn _ _ _ hb, tB_band, tB_zero]
    revert this
    cases tB o b <;> cases tB w b <;> cases tB g b <;> decide
theorem mayF_eq (o w g : List UInt8) (i : Nat) : mayF o w g i = mayB (gd o i 0) (gd w i 255) (gd g i 0) := rfl
theorem mayL_iff (o w g : List UInt8) : mayL o w g = true ↔ g.length = o.length ∧ ∀ i, i < o.length → mayF o w g i = true := by
  unfold mayL; simp [List.all_eq_true]
theorem mayL_no_len (o w g : List UInt8) (h : g.length ≠ o.length) : mayL o w g = false := by
  cases hm : mayL o w g with
  | false => rfl
  | true => exact absurd ((mayL_iff o w g).1 hm).1 h
theorem mayL_no_at (o w g : List UInt8) (i : Nat) (hi : i < o.length) (h : mayF o w g i = false) : mayL o w g = false := by
  cases hm : mayL o w g with
  | false => rfl
  | true => rw [((mayL_iff o w g).1 hm).2 i hi] at h; cases h
theorem ret_int {k : IntKind} {a b : Int} (h : a = b) : Ending.returned (.int k a) = .returned (.int k b) := by rw [h]
theorem ret_bool {a b : Bool} (h : a = b) : Ending.returned (.bool a) = .returned (.bool b) := by rw [h]
theorem ret_str {a b : ByteArray} (h : a = b) : Ending.returned (.string a) = .returned (.string b) := by rw [h]
theorem tb_eq (o w m : UInt8) : band o (bor w (bnot m)) = tb o w m := by
  apply ext8
  intro b hb
  simp only [tb, tB_bor, tB_band, tB_bandn _ _ _ hb, tB_bnot _ _ hb]
  cases tB o b <;> cases tB w b <;> cases tB m b <;> rfl
theorem u8_bne0 (x : UInt8) : (((x.toNat : Nat) : Int) != 0) = !(x == 0) := by
  by_cases h : x = 0
  · subst h; rfl
  · have h2 : x.toNat ≠ 0 := fun e => h (UInt8.toNat_inj.1 e)
    have h3 : ((x.toNat : Nat) : Int) ≠ 0 := by omega
    rw [bne_iff_ne.2 h3, beq_eq_false_iff_ne.2 h]; rfl
theorem mayB_of_true {o w g : UInt8} (h : (((bor (bandn g o) (bandn (band o w) g)).toNat : Int) != 0) = true) : mayB o w g = false := by
  rw [u8_bne0] at h; unfold mayB; simpa using h
theorem mayB_of_false {o w g : UInt8} (h : (((bor (bandn g o) (bandn (band o w) g)).toNat : Int) != 0) = false) : mayB o w g = true := by
  rw [u8_bne0] at h; unfold mayB; simpa using h
end Go.Proofs.Ytokfglgghdeakaa

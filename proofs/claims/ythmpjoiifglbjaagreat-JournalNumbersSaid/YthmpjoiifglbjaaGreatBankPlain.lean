/- What is good where, as the document says it, on plain data; plain laws: no statement is proved here. -/
import Derived.Test.YthmpjoiifglbjaaGreatFlash
import Derived.Test.YthmpjoiifglbjaaGreatFlashPlain
namespace Go.Proofs.YthmpjoiifglbjaaGreat
set_option linter.unusedVariables false

/-- The 24 bytes at a place. -/
def slotT (s : ByteArray) (i : Int) : ByteArray := if slotsF s.size ≠ 0 ∧ 0 ≤ i ∧ i ≤ slotsF s.size then s.extract (24 * i.toNat) (24 * i.toNat + 24) else ⟨#[]⟩
/-- What bytes at a place are: blank, dirty, good. -/
def stOf (l : List UInt8) (i : Int) : Int := if decE l = 5 then 0 else if decE l = 0 ∧ ((decR l).kind = 1 ↔ i = 0) then 2 else 1
def stateF (s : ByteArray) (i : Int) : Int := stOf (bl (slotT s i)) i
def genE (s : ByteArray) : Int := if stateF s 0 = 2 then 0 else 10
def genN (s : ByteArray) : Nat := if stateF s 0 = 2 then (decR (bl (slotT s 0))).seq else 0
def statesL (s : ByteArray) : List Int := (List.range (slotsF s.size).toNat).map fun (j : Nat) => stateF s ((j : Int) + 1)

theorem slots_size {z : Int} (h : slotsF z ≠ 0) : z = 24 * slotsF z + 24 ∧ 1 ≤ slotsF z ∧ slotsF z ≤ 12 := by
  by_cases k : 48 ≤ z ∧ z ≤ 312 ∧ z % 24 = 0
  · rw [slotsF_in k]; omega
  · exact absurd (slotsF_out k) h
theorem slots_le (z : Int) : 0 ≤ slotsF z ∧ slotsF z ≤ 12 := by
  by_cases h : slotsF z = 0
  · omega
  · have := slots_size h; omega
theorem statesL_length (s : ByteArray) : (statesL s).length = (slotsF s.size).toNat := by simp [statesL]
theorem statesL_get (s : ByteArray) (k : Nat) (h : k < (slotsF s.size).toNat) : (statesL s)[k]? = some (stateF s ((k : Int) + 1)) := by simp [statesL, h]
theorem slotT_out {s : ByteArray} {i : Int} (h : ¬ (slotsF s.size ≠ 0 ∧ 0 ≤ i ∧ i ≤ slotsF s.size)) : slotT s i = ⟨#[]⟩ := if_neg h
theorem slotT_in {s : ByteArray} {k : Nat} (h : slotsF s.size ≠ 0) (hk : (k : Int) ≤ slotsF s.size) : slotT s (k : Int) = s.extract (24 * k) (24 * k + 24) := by
  rw [slotT, if_pos ⟨h, by omega, hk⟩, Int.toNat_natCast]
theorem slotT_size {s : ByteArray} {k : Nat} (h : slotsF s.size ≠ 0) (hk : (k : Int) ≤ slotsF s.size) : (slotT s (k : Int)).size = 24 := by
  have := slots_size h
  rw [slotT_in h hk]; simp; omega
theorem slotT_small (s : ByteArray) (i : Int) : (slotT s i).size ≤ 24 := by
  unfold slotT; split
  · simp; omega
  · exact Nat.zero_le _
theorem bl_slotT {s : ByteArray} {k : Nat} (h : slotsF s.size ≠ 0) (hk : (k : Int) ≤ slotsF s.size) : bl (slotT s (k : Int)) = ((bl s).drop (24 * k)).take 24 := by
  rw [slotT_in h hk, bl_extract, List.drop_take, show 24 * k + 24 - 24 * k = 24 from by omega]
/-- A text in three parts, of which the one in the midst is a slot. -/
theorem slot_mid {a t c : ByteArray} {n i : Nat} (hn : 1 ≤ n ∧ n ≤ 12) (hi : i ≤ n) (ha : a.size = 24 * i) (ht : t.size = 24) (hc : c.size = 24 * (n - i)) :
    slotsF ((a ++ t ++ c).size : Int) = n ∧ slotT (a ++ t ++ c) (i : Int) = t ∧ ∀ (t' : ByteArray) (k : Nat), t'.size = 24 → k ≠ i → slotT (a ++ t ++ c) (k : Int) = slotT (a ++ t' ++ c) (k : Int) := by
  have hz : ∀ t : ByteArray, t.size = 24 → ((a ++ t ++ c).size : Int) = 24 * (n : Int) + 24 := fun t ht => by rw [ByteArray.size_append, ByteArray.size_append, ha, ht, hc]; omega
  have hs : ∀ t : ByteArray, t.size = 24 → slotsF ((a ++ t ++ c).size : Int) = n := fun t ht => by rw [hz t ht]; exact slotsF_size (by omega)
  refine ⟨hs t ht, ?_, fun t' k ht' hk => ?_⟩
  · apply bl_inj
    rw [bl_slotT (by rw [hs t ht]; omega) (by rw [hs t ht]; omega), bl_append, bl_append, List.append_assoc, List.drop_append_of_le_length (by rw [bl_length]; omega), List.drop_of_length_le (by rw [bl_length]; omega), List.nil_append,
      List.take_append_of_le_length (by rw [bl_length]; omega), List.take_of_length_le (by rw [bl_length]; omega)]
  · by_cases hkn : k ≤ n
    · apply bl_inj
      rw [bl_slotT (by rw [hs t ht]; omega) (by rw [hs t ht]; omega), bl_slotT (by rw [hs t' ht']; omega) (by rw [hs t' ht']; omega), bl_append, bl_append, bl_append, bl_append]
      by_cases hlt : k < i
      · rw [List.append_assoc, List.append_assoc, List.drop_append_of_le_length (by rw [bl_length]; omega), List.drop_append_of_le_length (by rw [bl_length]; omega), List.take_append_of_le_length (by rw [List.length_drop, bl_length]; omega), List.take_append_of_le_length (by rw [List.length_drop, bl_length]; omega)]
      · have e : ∀ t : ByteArray, t.size = 24 → (bl a ++ bl t ++ bl c).drop (24 * k) = (bl c).drop (24 * k - 24 * i - 24) := fun t ht => by
          rw [List.drop_append, List.drop_of_length_le (by rw [List.length_append, bl_length, bl_length]; omega), List.nil_append, List.length_append, bl_length, bl_length, ha, ht]
          congr 1 <;> omega
        rw [e t ht, e t' ht']
    · rw [slotT_out (by rw [hs t ht]; omega), slotT_out (by rw [hs t' ht']; omega)]
theorem blankT_len (n : Nat) : (blankT n).size = n := by rw [blankT, bs_size, List.length_replicate]
theorem bl_blank (n : Nat) : bl (blankT n) = List.replicate n 255 := by rw [blankT, bl_bs]
theorem dec_blank24 : decE (List.replicate 24 255) = 5 := by kernel_rfl
theorem blank_append (m n : Nat) : blankT m ++ blankT n = blankT (m + n) := by apply bl_inj; rw [bl_append, bl_blank, bl_blank, bl_blank, List.replicate_append_replicate]
theorem slot_blank {n k : Nat} (hn : 1 ≤ n ∧ n ≤ 12) (hk : k ≤ n) : slotT (blankT (24 * n + 24)) (k : Int) = blankT 24 := by
  have hz : ((blankT (24 * n + 24)).size : Int) = 24 * (n : Int) + 24 := by rw [blankT_len]; omega
  have hs : slotsF ((blankT (24 * n + 24)).size : Int) = n := by rw [hz]; exact slotsF_size (by omega)
  apply bl_inj
  rw [bl_slotT (by rw [hs]; omega) (by rw [hs]; omega), bl_blank, bl_blank, List.drop_replicate, List.take_replicate]
  congr 1; omega
theorem state_blank {n k : Nat} (hn : 1 ≤ n ∧ n ≤ 12) (hk : k ≤ n) : stateF (blankT (24 * n + 24)) (k : Int) = 0 := by
  rw [stateF, slot_blank hn hk, bl_blank]; unfold stOf; rw [if_pos dec_blank24]
/-- Bytes that are blank but for one slot. -/
theorem state_put {t : ByteArray} {n i : Nat} (hn : 1 ≤ n ∧ n ≤ 12) (hi : i ≤ n) (ht : t.size = 24) :
    slotsF ((blankT (24 * i) ++ t ++ blankT (24 * (n - i))).size : Int) = n ∧ stateF (blankT (24 * i) ++ t ++ blankT (24 * (n - i))) (i : Int) = stOf (bl t) i ∧ ∀ k : Nat, k ≤ n → k ≠ i → stateF (blankT (24 * i) ++ t ++ blankT (24 * (n - i))) (k : Int) = 0 := by
  obtain ⟨h1, h2, h3⟩ := slot_mid (a := blankT (24 * i)) (t := t) (c := blankT (24 * (n - i))) hn hi (blankT_len _) ht (blankT_len _)
  refine ⟨h1, by rw [stateF, h2], fun k hk hne => ?_⟩
  rw [stateF, h3 (blankT 24) k (blankT_len _) hne, blank_append, blank_append, show 24 * i + 24 + 24 * (n - i) = 24 * n + 24 from by omega]
  exact state_blank hn hk
theorem st_enc {r : Rec} (hr : r.ok) (h : 2 ≤ r.kind ∧ r.kind ≤ 3) {i : Int} (hi : i ≠ 0) : stOf (encL r) i = 2 := by
  have kr : r.known := ⟨by omega, h.2⟩
  have h0 : decE (encL r) = 0 := (dec_body kr (m := markL) rfl).trans (if_pos rfl)
  unfold stOf
  rw [h0, if_neg (by decide), if_pos ⟨rfl, by rw [decR_body hr kr]; constructor <;> intro h <;> omega⟩]
theorem st_body {r : Rec} (h : 2 ≤ r.kind ∧ r.kind ≤ 3) (i : Int) : stOf (bodyL r ++ [255, 255]) i = 1 := by
  have kr : r.known := ⟨by omega, h.2⟩
  have h0 : decE (bodyL r ++ [255, 255]) = 9 := (dec_body kr (m := [255, 255]) rfl).trans (if_neg (by decide))
  unfold stOf
  rw [h0, if_neg (by decide), if_neg (fun h => absurd h.1 (by decide))]
/-- All places, one behind the other. -/
def catT (s : ByteArray) : Nat → ByteArray
  | 0 => ⟨#[]⟩
  | k + 1 => catT s k ++ slotT s (k : Int)
theorem catT_none {s : ByteArray} (h : slotsF s.size = 0) (k : Nat) : catT s k = ⟨#[]⟩ := by
  induction k with
  | zero => rfl
  | succ k ih => rw [catT, ih, slotT_out (by rw [h]; omega)]; rfl
theorem catT_some {s : ByteArray} {n : Nat} (h : slotsF s.size = n) (hn : 0 < n) (k : Nat) : bl (catT s k) = (bl s).take (24 * min k (n + 1)) := by
  induction k with
  | zero => simp [catT, bl]
  | succ k ih =>
    rw [catT, bl_append, ih]
    by_cases hk : k ≤ n
    · rw [bl_slotT (by rw [h]; omega) (by rw [h]; omega), show min k (n + 1) = k from by omega, show min (k + 1) (n + 1) = k + 1 from by omega, show 24 * (k + 1) = 24 * k + 24 from by omega, List.take_add]
    · rw [slotT_out (by rw [h]; omega), show min k (n + 1) = n + 1 from by omega, show min (k + 1) (n + 1) = n + 1 from by omega]; simp [bl]
theorem catT_all {s : ByteArray} {n : Nat} (h : slotsF s.size = n) (hn : 0 < n) : catT s 14 = s := by
  have hz := slots_size (z := s.size) (by rw [h]; omega)
  apply bl_inj; rw [catT_some h hn, List.take_of_length_le (by rw [bl_length]; omega)]
theorem catT_size (s : ByteArray) (k : Nat) : (catT s k).size ≤ 24 * k := by
  induction k with
  | zero => exact Nat.zero_le _
  | succ k ih => have := slotT_small s (k : Int); rw [catT, ByteArray.size_append]; omega
/-- One slot put in place of another one. -/
theorem put_slot {s t : ByteArray} {n i : Nat} (h : slotsF s.size = n) (hn : 0 < n) (hi : i ≤ n) (ht : t.size = 24) :
    slotT (s.extract 0 (24 * i) ++ t ++ s.extract (24 * i + 24) s.size) (i : Int) = t ∧ ∀ k : Nat, k ≠ i → stateF (s.extract 0 (24 * i) ++ t ++ s.extract (24 * i + 24) s.size) (k : Int) = stateF s (k : Int) := by
  have hz := slots_size (z := s.size) (by rw [h]; omega)
  rw [h] at hz
  obtain ⟨h1, h2, h3⟩ := slot_mid (a := s.extract 0 (24 * i)) (t := t) (c := s.extract (24 * i + 24) s.size) (n := n) (i := i) (by omega) hi (by simp; omega) ht (by simp; omega)
  refine ⟨h2, fun k hk => ?_⟩
  rw [stateF, h3 (s.extract (24 * i) (24 * i + 24)) k (by simp; omega) hk]
  have e : s.extract 0 (24 * i) ++ s.extract (24 * i) (24 * i + 24) ++ s.extract (24 * i + 24) s.size = s := by
    apply bl_inj
    rw [bl_append, bl_append, bl_extract, bl_extract, bl_extract, List.drop_zero, List.drop_take, show 24 * i + 24 - 24 * i = 24 from by omega, List.take_of_length_le (l := bl s) (i := s.size) (by rw [bl_length]; exact Nat.le_refl _), ← List.take_add, List.take_append_drop]
  rw [e]; rfl
end Go.Proofs.YthmpjoiifglbjaaGreat

/- The last record, the next slot, as the document says it, on plain data; plain laws: no statement is proved here. -/
import Derived.Test.YthmpjoiifglbjaaGreatBankPlain
namespace Go.Proofs.YthmpjoiifglbjaaGreat
set_option linter.unusedVariables false

def recF (s : ByteArray) (i : Int) : Rec := decR (bl (slotT s i))
/-- The last record of the first k slots. -/
def lastG (s : ByteArray) : Nat → Option Rec
  | 0 => none
  | k + 1 => if stateF s ((k : Int) + 1) = 2 ∧ (∀ b, lastG s k = some b → b.seq ≤ (recF s ((k : Int) + 1)).seq) then some (recF s ((k : Int) + 1)) else lastG s k
def slotsN (s : ByteArray) : Nat := (slotsF s.size).toNat
def lastE (s : ByteArray) : Int := if lastG s (slotsN s) = none then 10 else 0
def lastR (s : ByteArray) : Rec := (lastG s (slotsN s)).getD ⟨0, 0, 0⟩
def nextG (s : ByteArray) : Nat → Nat
  | 0 => 1
  | k + 1 => if stateF s ((k : Int) + 1) ≠ 0 then k + 2 else nextG s k
def nextF (s : ByteArray) : Nat := if slotsN s < nextG s (slotsN s) then 0 else nextG s (slotsN s)
def goodG (s : ByteArray) : Nat → Nat
  | 0 => 0
  | k + 1 => goodG s k + (if stateF s ((k : Int) + 1) = 2 then 1 else 0)
def goodN (s : ByteArray) : Nat := goodG s (slotsN s)
def soundB (s : ByteArray) : Bool := genE s == 0 && lastE s == 0

theorem slotsN_eq (s : ByteArray) : (slotsN s : Int) = slotsF s.size := by have := slots_le (s.size : Int); unfold slotsN; omega
theorem slotsN_le (s : ByteArray) : slotsN s ≤ 12 := by have := slots_le (s.size : Int); unfold slotsN; omega
theorem goodG_le (s : ByteArray) (k : Nat) : goodG s k ≤ k := by
  induction k with
  | zero => exact Nat.le_refl _
  | succ k ih => rw [goodG]; split <;> omega
theorem nextG_le (s : ByteArray) (k : Nat) : 1 ≤ nextG s k ∧ nextG s k ≤ k + 1 := by
  induction k with
  | zero => exact ⟨Nat.le_refl _, Nat.le_refl _⟩
  | succ k ih => rw [nextG]; split <;> omega
theorem nextF_le (s : ByteArray) : nextF s ≤ slotsN s := by unfold nextF; split <;> omega
/-- What goes for the last one of the first k. -/
theorem lastG_none (s : ByteArray) (k : Nat) : lastG s k = none ↔ ∀ j : Nat, j < k → stateF s ((j : Int) + 1) ≠ 2 := by
  induction k with
  | zero => exact ⟨fun _ j h => absurd h (Nat.not_lt_zero _), fun _ => rfl⟩
  | succ k ih =>
    rw [lastG]
    constructor
    · intro h j hj hs
      split at h
      · cases h
      · rename_i hc
        rcases Nat.lt_or_ge j k with hlt | hge
        · exact ih.1 h j hlt hs
        · obtain rfl : j = k := by omega
          exact hc ⟨hs, fun b hb => by rw [h] at hb; cases hb⟩
    · intro h
      rw [if_neg (fun hc => h k (Nat.lt_succ_self _) hc.1)]
      exact ih.2 fun j hj => h j (by omega)
theorem lastG_some (s : ByteArray) (k : Nat) (b : Rec) (h : lastG s k = some b) : (∃ j : Nat, j < k ∧ stateF s ((j : Int) + 1) = 2 ∧ recF s ((j : Int) + 1) = b) ∧ ∀ j : Nat, j < k → stateF s ((j : Int) + 1) = 2 → (recF s ((j : Int) + 1)).seq ≤ b.seq := by
  induction k generalizing b with
  | zero => cases h
  | succ k ih =>
    rw [lastG] at h
    split at h
    · rename_i hc
      cases h
      refine ⟨⟨k, Nat.lt_succ_self _, hc.1, rfl⟩, fun j hj hs => ?_⟩
      rcases Nat.lt_or_ge j k with hlt | hge
      · cases hl : lastG s k with
        | none => exact absurd hs ((lastG_none s k).1 hl j hlt)
        | some c => exact Nat.le_trans ((ih c hl).2 j hlt hs) (hc.2 c hl)
      · obtain rfl : j = k := by omega
        exact Nat.le_refl _
    · rename_i hc
      obtain ⟨⟨j, hj, hs, hr⟩, hall⟩ := ih b h
      refine ⟨⟨j, by omega, hs, hr⟩, fun i hi hs => ?_⟩
      rcases Nat.lt_or_ge i k with hlt | hge
      · exact hall i hlt hs
      · obtain rfl : i = k := by omega
        rcases Nat.le_total (recF s ((i : Int) + 1)).seq b.seq with hle | hle
        · exact hle
        · exact absurd ⟨hs, fun c hc2 => by rw [h] at hc2; cases hc2; exact hle⟩ hc
theorem goodG_zero (s : ByteArray) (k : Nat) : goodG s k = 0 ↔ lastG s k = none := by
  rw [lastG_none]
  induction k with
  | zero => exact ⟨fun _ j h => absurd h (Nat.not_lt_zero _), fun _ => rfl⟩
  | succ k ih =>
    rw [goodG]
    constructor
    · intro h j hj hs
      rcases Nat.lt_or_ge j k with hlt | hge
      · exact ih.1 (by omega) j hlt hs
      · obtain rfl : j = k := by omega
        rw [if_pos hs] at h; omega
    · intro h
      rw [if_neg (h k (Nat.lt_succ_self _)), ih.2 fun j hj => h j (by omega)]
theorem nextG_behind (s : ByteArray) (k : Nat) : ∀ j : Nat, j < k → nextG s k ≤ j + 1 → stateF s ((j : Int) + 1) = 0 := by
  induction k with
  | zero => intro j h; exact absurd h (Nat.not_lt_zero _)
  | succ k ih =>
    intro j hj h
    rw [nextG] at h
    split at h
    · omega
    · rename_i hc
      rcases Nat.lt_or_ge j k with hlt | hge
      · exact ih j hlt h
      · obtain rfl : j = k := by omega
        simpa using hc
theorem nextG_ahead (s : ByteArray) (k : Nat) (h : nextG s k ≠ 1) : stateF s ((nextG s k : Int) - 1) ≠ 0 := by
  induction k with
  | zero => exact absurd rfl h
  | succ k ih =>
    rw [nextG] at h ⊢
    split
    · rename_i hc
      rw [show ((k + 2 : Nat) : Int) - 1 = (k : Int) + 1 from by omega]; exact hc
    · rename_i hc
      rw [if_neg hc] at h; exact ih h
/-- Two texts whose states and records agree up to k. -/
theorem scan_agree {s t : ByteArray} {k : Nat} (h : ∀ j : Nat, j < k → stateF s ((j : Int) + 1) = stateF t ((j : Int) + 1) ∧ (stateF t ((j : Int) + 1) = 2 → recF s ((j : Int) + 1) = recF t ((j : Int) + 1))) : lastG s k = lastG t k ∧ nextG s k = nextG t k ∧ goodG s k = goodG t k := by
  induction k with
  | zero => exact ⟨rfl, rfl, rfl⟩
  | succ k ih =>
    obtain ⟨h1, h2, h3⟩ := ih fun j hj => h j (by omega)
    obtain ⟨a, b⟩ := h k (Nat.lt_succ_self _)
    refine ⟨?_, ?_, ?_⟩
    · rw [lastG, lastG, h1, a]
      by_cases hs : stateF t ((k : Int) + 1) = 2
      · rw [b hs]
      · rw [if_neg (fun h => hs h.1), if_neg (fun h => hs h.1)]
    · rw [nextG, nextG, h2, a]
    · rw [goodG, goodG, h3, a]
/-- Behind k all is blank. -/
theorem scan_blank {s : ByteArray} {k n : Nat} (hkn : k ≤ n) (h : ∀ j : Nat, k ≤ j → j < n → stateF s ((j : Int) + 1) = 0) : lastG s n = lastG s k ∧ nextG s n = nextG s k ∧ goodG s n = goodG s k := by
  induction n with
  | zero => obtain rfl : k = 0 := by omega
            exact ⟨rfl, rfl, rfl⟩
  | succ n ih =>
    rcases Nat.lt_or_ge n k with hlt | hge
    · obtain rfl : k = n + 1 := by omega
      exact ⟨rfl, rfl, rfl⟩
    · obtain ⟨h1, h2, h3⟩ := ih hge fun j a b => h j a (by omega)
      have h0 := h n hge (Nat.lt_succ_self _)
      refine ⟨?_, ?_, ?_⟩
      · rw [lastG, if_neg (fun h => by rw [h0] at h; exact absurd h.1 (by decide)), h1]
      · rw [nextG, if_neg (by rw [h0]; decide), h2]
      · rw [goodG, if_neg (by rw [h0]; decide), h3, Nat.add_zero]
theorem next_some {s : ByteArray} {k : Nat} (h : nextF s = k) (hk : 0 < k) : nextG s (slotsN s) = k ∧ k ≤ slotsN s := by
  unfold nextF at h
  split at h
  · omega
  · omega
theorem next_all {s : ByteArray} {k : Nat} (h : nextF s = k + 1) : k + 1 ≤ slotsN s ∧ (∀ j : Nat, k ≤ j → j < slotsN s → stateF s ((j : Int) + 1) = 0) ∧ nextG s k = k + 1 := by
  obtain ⟨h1, h2⟩ := next_some h (by omega)
  have h3 : ∀ j : Nat, k ≤ j → j < slotsN s → stateF s ((j : Int) + 1) = 0 := fun j a b => nextG_behind s _ j b (by omega)
  refine ⟨h2, h3, ?_⟩
  rw [← (scan_blank (s := s) (k := k) (n := slotsN s) (by omega) h3).2.1]; exact h1
/-- What is written into the next slot. -/
theorem scan_put {s t : ByteArray} {k : Nat} (h : nextF s = k + 1) (ht : t.size = 24) (hst : stOf (bl t) ((k : Int) + 1) ≠ 0) :
    let u := s.extract 0 (24 * (k + 1)) ++ t ++ s.extract (24 * (k + 1) + 24) s.size
    slotsN u = slotsN s ∧ stateF u 0 = stateF s 0 ∧ slotT u 0 = slotT s 0 ∧ nextF u = (if k + 1 = slotsN s then 0 else k + 2) ∧ goodN u = goodN s + (if stOf (bl t) ((k : Int) + 1) = 2 then 1 else 0) ∧
    lastG u (slotsN u) = (if stOf (bl t) ((k : Int) + 1) = 2 ∧ (∀ b, lastG s (slotsN s) = some b → b.seq ≤ (decR (bl t)).seq) then some (decR (bl t)) else lastG s (slotsN s)) := by
  intro u
  obtain ⟨hk, hb, hn⟩ := next_all h
  have hN := slotsN_eq s
  have hl := slotsN_le s
  have hsz := slots_size (z := s.size) (by omega)
  have hm := slot_mid (a := s.extract 0 (24 * (k + 1))) (t := t) (c := s.extract (24 * (k + 1) + 24) s.size) (n := slotsN s) (i := k + 1) (by omega) hk (by simp; omega) ht (by simp; omega)
  have hid : s.extract 0 (24 * (k + 1)) ++ s.extract (24 * (k + 1)) (24 * (k + 1) + 24) ++ s.extract (24 * (k + 1) + 24) s.size = s := by
    apply bl_inj
    rw [bl_append, bl_append, bl_extract, bl_extract, bl_extract, List.drop_zero, List.drop_take, show 24 * (k + 1) + 24 - 24 * (k + 1) = 24 from by omega, List.take_of_length_le (l := bl s) (i := s.size) (by rw [bl_length]; exact Nat.le_refl _), ← List.take_add, List.take_append_drop]
  have hoth : ∀ j : Nat, j ≠ k + 1 → slotT u (j : Int) = slotT s (j : Int) := fun j hj => by
    have := hm.2.2 (s.extract (24 * (k + 1)) (24 * (k + 1) + 24)) j (by simp; omega) hj
    rwa [hid] at this
  have hmine : slotT u ((k : Int) + 1) = t := by have := hm.2.1; rwa [show ((k + 1 : Nat) : Int) = (k : Int) + 1 from by omega] at this
  have hNu : slotsN u = slotsN s := by have h1 : slotsF (u.size : Int) = ((slotsN s : Nat) : Int) := hm.1; have h2 := slotsN_eq u; omega
  have h0 : slotT u 0 = slotT s 0 := hoth 0 (by omega)
  have hag : ∀ j : Nat, j < k → stateF u ((j : Int) + 1) = stateF s ((j : Int) + 1) ∧ (stateF s ((j : Int) + 1) = 2 → recF u ((j : Int) + 1) = recF s ((j : Int) + 1)) := fun j hj => by
    have e : slotT u ((j : Int) + 1) = slotT s ((j : Int) + 1) := by have := hoth (j + 1) (by omega); rwa [show ((j + 1 : Nat) : Int) = (j : Int) + 1 from by omega] at this
    exact ⟨by rw [stateF, stateF, e], fun _ => by rw [recF, recF, e]⟩
  obtain ⟨a1, a2, a3⟩ := scan_agree hag
  have hbu : ∀ j : Nat, k + 1 ≤ j → j < slotsN s → stateF u ((j : Int) + 1) = 0 := fun j h1 h2 => by
    have e : slotT u ((j : Int) + 1) = slotT s ((j : Int) + 1) := by have := hoth (j + 1) (by omega); rwa [show ((j + 1 : Nat) : Int) = (j : Int) + 1 from by omega] at this
    have := hb j (by omega) h2
    rw [stateF] at this ⊢; rw [e]; exact this
  obtain ⟨b1, b2, b3⟩ := scan_blank (s := u) (k := k + 1) (n := slotsN s) hk hbu
  obtain ⟨c1, c2, c3⟩ := scan_blank (s := s) (k := k) (n := slotsN s) (by omega) hb
  have hsm : stateF u ((k : Int) + 1) = stOf (bl t) ((k : Int) + 1) := by rw [stateF, hmine]
  have hrm : recF u ((k : Int) + 1) = decR (bl t) := by rw [recF, hmine]
  refine ⟨hNu, by rw [stateF, stateF, h0], h0, ?_, ?_, ?_⟩
  · unfold nextF; rw [hNu, b2, nextG, hsm, if_pos hst]
    by_cases e : k + 1 = slotsN s
    · rw [if_pos (by omega), if_pos e]
    · rw [if_neg (by omega), if_neg e]
  · unfold goodN; rw [hNu, b3, goodG, hsm, a3, c3]
  · rw [hNu, b1, lastG, hsm, hrm, a1, c1]
/-- Is one of the first k good ones this record? -/
def recB (a b : Rec) : Bool := a.kind == b.kind && a.seq == b.seq && a.data == b.data
theorem recB_iff (a b : Rec) : recB a b = true ↔ a = b := by
  unfold recB; cases a; cases b; simp [and_assoc]
def foundG (s : ByteArray) (b : Rec) : Nat → Bool
  | 0 => false
  | k + 1 => foundG s b k || (stateF s ((k : Int) + 1) == 2 && recB b (recF s ((k : Int) + 1)))
theorem foundG_true (s : ByteArray) (b : Rec) (k : Nat) : foundG s b k = true ↔ ∃ j : Nat, j < k ∧ stateF s ((j : Int) + 1) = 2 ∧ recF s ((j : Int) + 1) = b := by
  induction k with
  | zero => simp [foundG]
  | succ k ih =>
    rw [foundG, Bool.or_eq_true, ih, Bool.and_eq_true, beq_iff_eq, recB_iff]
    constructor
    · rintro (⟨j, hj, h⟩ | ⟨h1, h2⟩)
      · exact ⟨j, by omega, h⟩
      · exact ⟨k, Nat.lt_succ_self _, h1, h2.symm⟩
    · rintro ⟨j, hj, h1, h2⟩
      rcases Nat.lt_or_ge j k with hlt | hge
      · exact .inl ⟨j, hlt, h1, h2⟩
      · obtain rfl : j = k := by omega
        exact .inr ⟨h1, h2.symm⟩
theorem found_last (s : ByteArray) : foundG s (lastR s) (slotsN s) = decide (0 < goodN s) ∧ (lastE s = 0 ↔ 0 < goodN s) := by
  have hz := goodG_zero s (slotsN s)
  unfold goodN lastR lastE
  cases hl : lastG s (slotsN s) with
  | none =>
    have h0 := hz.2 hl
    refine ⟨?_, by rw [h0]; simp⟩
    rw [h0, show decide (0 < 0) = false from rfl, Bool.eq_false_iff]
    intro h
    obtain ⟨j, hj, hs, _⟩ := (foundG_true _ _ _).1 h
    exact (lastG_none _ _).1 hl j hj hs
  | some b =>
    have h0 : 0 < goodG s (slotsN s) := by
      rcases Nat.eq_zero_or_pos (goodG s (slotsN s)) with h | h
      · rw [hz.1 h] at hl; cases hl
      · exact h
    obtain ⟨⟨j, hj, hs, hr⟩, _⟩ := lastG_some s _ b hl
    refine ⟨?_, by simp [h0]⟩
    rw [decide_eq_true h0]
    exact (foundG_true _ _ _).2 ⟨j, hj, hs, hr⟩
theorem last_le {s : ByteArray} {j : Nat} (hj : j < slotsN s) (hs : stateF s ((j : Int) + 1) = 2) : lastE s = 0 ∧ (recF s ((j : Int) + 1)).seq ≤ (lastR s).seq := by
  unfold lastR lastE
  cases hl : lastG s (slotsN s) with
  | none => exact absurd hs ((lastG_none _ _).1 hl j hj)
  | some b => exact ⟨by simp, (lastG_some s _ b hl).2 j hj hs⟩
/-- A bank that is filled, one record behind the other. -/
def fillT (k : Nat) (D : Nat → Nat) : Nat → ByteArray
  | 0 => bs (encL ⟨1, 1, 0⟩) ++ blankT (24 * k)
  | i + 1 => (fillT k D i).extract 0 (24 * (i + 1)) ++ bs (encL ⟨2, i + 1, D i⟩) ++ (fillT k D i).extract (24 * (i + 1) + 24) (fillT k D i).size
theorem fill_all (k : Nat) (D : Nat → Nat) (hk : 1 ≤ k ∧ k ≤ 12) (hD : ∀ j, j < k → D j < 18446744073709551616) (i : Nat) (hi : i ≤ k) :
    (fillT k D i).size = 24 * k + 24 ∧ slotsN (fillT k D i) = k ∧ stateF (fillT k D i) 0 = 2 ∧ nextF (fillT k D i) = (if i = k then 0 else i + 1) ∧ goodN (fillT k D i) = i ∧ lastG (fillT k D i) k = (if i = 0 then none else some ⟨2, i, D (i - 1)⟩) := by
  induction i with
  | zero =>
    have hz : (bs (encL ⟨1, 1, 0⟩)).size = 24 := by rw [bs_size, encL_length]
    have e : fillT k D 0 = blankT (24 * 0) ++ bs (encL ⟨1, 1, 0⟩) ++ blankT (24 * (k - 0)) := by
      apply bl_inj; simp [fillT, bl_append, bl_blank]
    obtain ⟨h1, h2, h3⟩ := state_put (t := bs (encL ⟨1, 1, 0⟩)) (n := k) (i := 0) hk (Nat.zero_le _) hz
    rw [← e] at h1 h2 h3
    rw [bl_bs] at h2
    have hN : slotsN (fillT k D 0) = k := by have := slotsN_eq (fillT k D 0); omega
    have hb := scan_blank (s := fillT k D 0) (k := 0) (n := k) (Nat.zero_le _) (fun j _ hj => h3 (j + 1) (by omega) (by omega))
    refine ⟨by rw [fillT, ByteArray.size_append, hz, blankT_len]; omega, hN, ?_, ?_, ?_, ?_⟩
    · exact h2.trans (by kernel_rfl)
    · unfold nextF; rw [hN, hb.2.1, nextG, if_neg (by omega), if_neg (by omega)]
    · unfold goodN; rw [hN, hb.2.2]; rfl
    · rw [hb.1]; rfl
  | succ i ih =>
    obtain ⟨a1, a2, a3, a4, a5, a6⟩ := ih (by omega)
    have hr : (⟨2, i + 1, D i⟩ : Rec).ok := ⟨by simp, by show i + 1 < _; omega, hD i (by omega)⟩
    have hz : (bs (encL ⟨2, i + 1, D i⟩)).size = 24 := by rw [bs_size, encL_length]
    have hst : stOf (bl (bs (encL ⟨2, i + 1, D i⟩))) ((i : Int) + 1) = 2 := by rw [bl_bs]; exact st_enc hr ⟨by simp, by simp⟩ (by omega)
    have hp := scan_put (s := fillT k D i) (t := bs (encL ⟨2, i + 1, D i⟩)) (k := i) (by rw [a4, if_neg (by omega)]) hz (by rw [hst]; decide)
    rw [hst] at hp
    have hdec : decR (bl (bs (encL ⟨2, i + 1, D i⟩))) = ⟨2, i + 1, D i⟩ := by rw [bl_bs]; exact decR_body hr ⟨by simp, by simp⟩
    rw [hdec, a2, a5, a6] at hp
    obtain ⟨b1, b2, _, b4, b5, b6⟩ := hp
    have e : fillT k D (i + 1) = (fillT k D i).extract 0 (24 * (i + 1)) ++ bs (encL ⟨2, i + 1, D i⟩) ++ (fillT k D i).extract (24 * (i + 1) + 24) (fillT k D i).size := rfl
    rw [← e] at b1 b2 b4 b5 b6
    rw [b1] at b6
    refine ⟨by rw [e, ByteArray.size_append, ByteArray.size_append, hz]; simp; omega, b1, b2.trans a3, b4, b5, ?_⟩
    have hle : ∀ b : Rec, (if i = 0 then none else some (⟨2, i, D (i - 1)⟩ : Rec)) = some b → b.seq ≤ (⟨2, i + 1, D i⟩ : Rec).seq := fun b hb => by
      by_cases h0 : i = 0
      · rw [if_pos h0] at hb; cases hb
      · rw [if_neg h0] at hb; cases hb; show i ≤ i + 1; omega
    rw [b6, if_pos ⟨rfl, hle⟩, if_neg (by omega)]
    rfl
/-- From slot i + 1 on all are blank, just if the next slot is not behind it. -/
theorem nextG_out {s : ByteArray} {n i : Nat} (h : i + 1 < nextG s n) : ∃ k : Nat, i ≤ k ∧ k < n ∧ nextG s n = k + 2 := by
  have h1 := nextG_le s n
  exact ⟨nextG s n - 2, by omega, by omega, by omega⟩
theorem nextG_stays {s : ByteArray} {n i : Nat} (hi : i + 1 ≤ nextG s n) (h : ∀ k : Nat, i ≤ k → k < n → stateF s ((k : Int) + 1) = 0) : nextG s n = i + 1 := by
  rcases Nat.lt_or_ge (i + 1) (nextG s n) with hlt | hge
  · obtain ⟨k, h1, h2, h3⟩ := nextG_out hlt
    have h4 := nextG_ahead s n (by omega)
    rw [h3, show ((k + 2 : Nat) : Int) - 1 = (k : Int) + 1 from by omega] at h4
    exact absurd (h k h1 h2) h4
  · omega
theorem nextG_moves {s : ByteArray} {n i k : Nat} (h1 : i ≤ k) (h2 : k < n) (h : stateF s ((k : Int) + 1) ≠ 0) : i + 2 ≤ nextG s n := by
  rcases Nat.lt_or_ge (nextG s n) (i + 2) with hlt | hge
  · exact absurd (nextG_behind s n k h2 (by omega)) h
  · exact hge
end Go.Proofs.YthmpjoiifglbjaaGreat

/- Which bank counts, as the document says it, on plain data; plain laws: no statement is proved here. -/
import Derived.Test.YthmpjoiifglbjaaGreatScanPlain
import Derived.Test.YthmpjoiifglbjaaGreatFlashPlain
namespace Go.Proofs.YthmpjoiifglbjaaGreat
set_option linter.unusedVariables false

structure Pk where
  bank : Int
  gen : Nat
  seq : Nat
  data : Nat
/-- The bank that counts, of two banks' bytes. -/
def bankG (a b : ByteArray) : Int :=
  if soundB a = true ∧ soundB b = true ∧ genN a < genN b then 1 else if soundB a = true then 0 else if soundB b = true then 1 else -1
def bankK (f : Fl) : Int := bankG f.b0 f.b1
def pickS (f : Fl) : Pk := if bankK f < 0 then ⟨0, 0, 0, 0⟩ else ⟨bankK f, genN (f.bank (bankK f)), (lastR (f.bank (bankK f))).seq, (lastR (f.bank (bankK f))).data⟩
def pickE (f : Fl) : Int := if bankK f < 0 then 10 else 0
def evenF (f : Fl) : Bool := decide (slotsF f.b0.size ≠ 0) && decide (f.b0.size = f.b1.size)
def otherN (n : Int) : Int := if n = 0 then 1 else 0

theorem bankG_cases (a b : ByteArray) : bankG a b = 1 ∨ bankG a b = 0 ∨ bankG a b = -1 := by
  unfold bankG; split
  · exact Or.inl rfl
  · split
    · exact Or.inr (Or.inl rfl)
    · split
      · exact Or.inl rfl
      · exact Or.inr (Or.inr rfl)
theorem bankG_none {a b : ByteArray} : bankG a b < 0 ↔ soundB a = false ∧ soundB b = false := by
  unfold bankG
  cases ha : soundB a <;> cases hb : soundB b <;> simp
  split <;> omega
theorem bankG_zero {a b : ByteArray} (h : bankG a b = 0) : soundB a = true ∧ (soundB b = true → genN b ≤ genN a) := by
  unfold bankG at h
  cases ha : soundB a <;> cases hb : soundB b <;> simp [ha, hb] at h ⊢
  exact h
theorem bankG_one {a b : ByteArray} (h : bankG a b = 1) : soundB b = true ∧ (soundB a = true → genN a < genN b) := by
  unfold bankG at h
  cases ha : soundB a <;> cases hb : soundB b <;> simp [ha, hb] at h ⊢
  exact h
theorem bankG_is0 {a b : ByteArray} (ha : soundB a = true) (h : soundB b = true → genN b ≤ genN a) : bankG a b = 0 := by
  unfold bankG
  rw [if_neg (fun x => by have := h x.2.1; omega), if_pos ha]
theorem bankG_is1 {a b : ByteArray} (hb : soundB b = true) (h : soundB a = true → genN a < genN b) : bankG a b = 1 := by
  unfold bankG
  by_cases ha : soundB a = true
  · rw [if_pos ⟨ha, hb, h ha⟩]
  · rw [if_neg (fun x => ha x.1), if_neg ha, if_pos hb]
/-- A bank that is sound has a generation and a last record. -/
theorem sound_parts {s : ByteArray} (h : soundB s = true) : genE s = 0 ∧ lastE s = 0 := by
  unfold soundB at h; simpa using h
theorem sound_mk {s : ByteArray} (h1 : genE s = 0) (h2 : lastE s = 0) : soundB s = true := by
  unfold soundB; rw [h1, h2]; rfl
theorem sound_slots {s : ByteArray} (h : soundB s = true) : slotsF s.size ≠ 0 := fun h0 => by
  obtain ⟨h1, h2⟩ := sound_parts h
  have hn : slotsN s = 0 := by unfold slotsN; omega
  unfold lastE at h2
  rw [hn] at h2
  simp [lastG] at h2
theorem gen_state {s : ByteArray} : genE s = 0 ↔ stateF s 0 = 2 := by
  unfold genE; split <;> simp_all
theorem bankK_cases (f : Fl) : bankK f = 1 ∨ bankK f = 0 ∨ bankK f = -1 := bankG_cases _ _
theorem pickE_zero {f : Fl} : pickE f = 0 ↔ bankK f = 0 ∨ bankK f = 1 := by
  unfold pickE
  rcases bankK_cases f with h | h | h <;> rw [h] <;> decide
theorem pickS_some {f : Fl} (h : bankK f = 0 ∨ bankK f = 1) : pickS f = ⟨bankK f, genN (f.bank (bankK f)), (lastR (f.bank (bankK f))).seq, (lastR (f.bank (bankK f))).data⟩ := by
  unfold pickS; rw [if_neg (by omega)]
theorem pickS_none {f : Fl} (h : bankK f < 0) : pickS f = ⟨0, 0, 0, 0⟩ := if_pos h
/-- The bank that counts is sound. -/
theorem bankK_sound {f : Fl} (h : bankK f = 0 ∨ bankK f = 1) : soundB (f.bank (bankK f)) = true ∧ (soundB (f.bank (1 - bankK f)) = true → genN (f.bank (1 - bankK f)) ≤ genN (f.bank (bankK f)) ∧ (genN (f.bank (1 - bankK f)) = genN (f.bank (bankK f)) → bankK f = 0)) := by
  rcases h with h | h
  · have h2 := bankG_zero (show bankG f.b0 f.b1 = 0 from h)
    rw [h]
    refine ⟨h2.1, fun x => ⟨h2.2 x, fun _ => rfl⟩⟩
  · have h2 := bankG_one (show bankG f.b0 f.b1 = 1 from h)
    rw [h]
    refine ⟨h2.1, fun x => ?_⟩
    have h3 := h2.2 x
    have e0 : f.bank (1 - 1) = f.b0 := rfl
    have e1 : f.bank 1 = f.b1 := rfl
    rw [e0, e1]
    exact ⟨by omega, fun e => by omega⟩
/-- Told by one bank k alone: it is sound, and the other one is not, or has a lesser generation (or the same one, behind the first bank). -/
theorem bankK_is {f : Fl} {k : Int} (hk : k = 0 ∨ k = 1) (h1 : soundB (f.bank k) = true) (h2 : soundB (f.bank (1 - k)) = true → genN (f.bank (1 - k)) < genN (f.bank k)) : bankK f = k := by
  rcases hk with rfl | rfl
  · exact bankG_is0 h1 fun x => Nat.le_of_lt (h2 x)
  · exact bankG_is1 h1 h2
end Go.Proofs.YthmpjoiifglbjaaGreat

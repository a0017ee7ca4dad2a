/- What is done to a flash till the power goes, as the document says it, on plain data; plain laws: no statement is proved here. -/
import Derived.Test.YthmpjoiifglbjaaGreatScanPlain
import Derived.Test.YthmpjoiifglbjaaGreatFlashPlain
namespace Go.Proofs.YthmpjoiifglbjaaGreat
set_option linter.unusedVariables false

structure Pk where
  bank : Int
  gen : Nat
  seq : Nat
  data : Nat
/-- The bank that counts, of two banks' bytes. -/
def bankG (a b : ByteArray) : Int :=
  if soundB a = true ∧ soundB b = true ∧ genN a < genN b then 1 else if soundB a = true then 0 else if soundB b = true then 1 else -1
def bankK (f : Fl) : Int := bankG f.b0 f.b1
def pickS (f : Fl) : Pk := if bankK f < 0 then ⟨0, 0, 0, 0⟩ else ⟨bankK f, genN (f.bank (bankK f)), (lastR (f.bank (bankK f))).seq, (lastR (f.bank (bankK f))).data⟩
def pickE (f : Fl) : Int := if bankK f < 0 then 10 else 0
def evenF (f : Fl) : Bool := decide (slotsF f.b0.size ≠ 0) && decide (f.b0.size = f.b1.size)
def otherN (n : Int) : Int := if n = 0 then 1 else 0

theorem bankG_cases (a b : ByteArray) : bankG a b = 1 ∨ bankG a b = 0 ∨ bankG a b = -1 := by
  unfold bankG; split
  · exact Or.inl rfl
  · split
    · exact Or.inr (Or.inl rfl)
    · split
      · exact Or.inl rfl
      · exact Or.inr (Or.inr rfl)
theorem bankG_none {a b : ByteArray} : bankG a b < 0 ↔ soundB a = false ∧ soundB b = false := by
  unfold bankG
  cases ha : soundB a <;> cases hb : soundB b <;> simp
  split <;> omega
theorem bankG_zero {a b : ByteArray} (h : bankG a b = 0) : soundB a = true ∧ (soundB b = true → genN b ≤ genN a) := by
  unfold bankG at h
  cases ha : soundB a <;> cases hb : soundB b <;> simp [ha, hb] at h ⊢
  exact h
theorem bankG_one {a b : ByteArray} (h : bankG a b = 1) : soundB b = true ∧ (soundB a = true → genN a < genN b) := by
  unfold bankG at h
  cases ha : soundB a <;> cases hb : soundB b <;> simp [ha, hb] at h ⊢
  exact h
theorem bankG_is0 {a b : ByteArray} (ha : soundB a = true) (h : soundB b = true → genN b ≤ genN a) : bankG a b = 0 := by
  unfold bankG
  rw [if_neg (fun x => by have := h x.2.1; omega), if_pos ha]
theorem bankG_is1 {a b : ByteArray} (hb : soundB b = true) (h : soundB a = true → genN a < genN b) : bankG a b = 1 := by
  unfold bankG
  by_cases ha : soundB a = true
  · rw [if_pos ⟨ha, hb, h ha⟩]
  · rw [if_neg (fun x => ha x.1), if_neg ha, if_pos hb]
/-- A bank that is sound has a generation and a last record. -/
theorem sound_parts {s : ByteArray} (h : soundB s = true) : genE s = 0 ∧ lastE s = 0 := by
  unfold soundB at h; simpa using h
theorem sound_mk {s : ByteArray} (h1 : genE s = 0) (h2 : lastE s = 0) : soundB s = true := by
  unfold soundB; rw [h1, h2]; rfl
theorem sound_slots {s : ByteArray} (h : soundB s = true) : slotsF s.size ≠ 0 := fun h0 => by
  obtain ⟨h1, h2⟩ := sound_parts h
  have hn : slotsN s = 0 := by unfold slotsN; omega
  unfold lastE at h2
  rw [hn] at h2
  simp [lastG] at h2
theorem gen_state {s : ByteArray} : genE s = 0 ↔ stateF s 0 = 2 := by
  unfold genE; split <;> simp_all
theorem bankK_cases (f : Fl) : bankK f = 1 ∨ bankK f = 0 ∨ bankK f = -1 := bankG_cases _ _
theorem pickE_zero {f : Fl} : pickE f = 0 ↔ bankK f = 0 ∨ bankK f = 1 := by
  unfold pickE
  rcases bankK_cases f with h | h | h <;> rw [h] <;> decide
theorem pickS_some {f : Fl} (h : bankK f = 0 ∨ bankK f = 1) : pickS f = ⟨bankK f, genN (f.bank (bankK f)), (lastR (f.bank (bankK f))).seq, (lastR (f.bank (bankK f))).data⟩ := by
  unfold pickS; rw [if_neg (by omega)]
theorem pickS_none {f : Fl} (h : bankK f < 0) : pickS f = ⟨0, 0, 0, 0⟩ := if_pos h
/-- The bank that counts is sound. -/
theorem bankK_sound {f : Fl} (h : bankK f = 0 ∨ bankK f = 1) : soundB (f.bank (bankK f)) = true ∧ (soundB (f.bank (1 - bankK f)) = true → genN (f.bank (1 - bankK f)) ≤ genN (f.bank (bankK f)) ∧ (genN (f.bank (1 - bankK f)) = genN (f.bank (bankK f)) → bankK f = 0)) := by
  rcases h with h | h
  · have h2 := bankG_zero (show bankG f.b0 f.b1 = 0 from h)
    rw [h]
    refine ⟨h2.1, fun x => ⟨h2.2 x, fun _ => rfl⟩⟩
  · have h2 := bankG_one (show bankG f.b0 f.b1 = 1 from h)
    rw [h]
    refine ⟨h2.1, fun x => ?_⟩
    have h3 := h2.2 x
    have e0 : f.bank (1 - 1) = f.b0 := rfl
    have e1 : f.bank 1 = f.b1 := rfl
    rw [e0, e1]
    exact ⟨by omega, fun e => by omega⟩
/-- Told by one bank k alone: it is sound, and the other one is not, or has a lesser generation (or the same one, behind the first bank). -/
theorem bankK_is {f : Fl} {k : Int} (hk : k = 0 ∨ k = 1) (h1 : soundB (f.bank k) = true) (h2 : soundB (f.bank (1 - k)) = true → genN (f.bank (1 - k)) < genN (f.bank k)) : bankK f = k := by
  rcases hk with rfl | rfl
  · exact bankG_is0 h1 fun x => Nat.le_of_lt (h2 x)
  · exact bankG_is1 h1 h2
end Go.Proofs.YthmpjoiifglbjaaGreat
namespace Go.Proofs.YthmpjoiifglbjaaGreat
set_option linter.unusedVariables false

/-- An op. -/
structure PwOp where
  kind : Int
  bank : Int
  q : Int
  d : ByteArray
structure PwOp.ok (o : PwOp) : Prop where
  nk : -9223372036854775808 ≤ o.kind ∧ o.kind ≤ 9223372036854775807
  nb : -9223372036854775808 ≤ o.bank ∧ o.bank ≤ 9223372036854775807
  nq : -9223372036854775808 ≤ o.q ∧ o.q ≤ 9223372036854775807
  sd : o.d.size ≤ maxLen
def doErr (f : Fl) (o : PwOp) : Int := if o.kind = 1 then progErr f o.bank o.q o.d else if o.kind = 2 then eraseErr f o.bank else 1
def doF (f : Fl) (o : PwOp) : Fl := if o.kind = 1 then progF f o.bank o.q o.d else if o.kind = 2 then eraseF f o.bank else f
def spliceT (s : ByteArray) (q : Nat) (d m : ByteArray) : ByteArray := s.extract 0 q ++ tornB (s.extract q (q + d.size)) d m ++ s.extract (q + d.size) s.size
/-- A byte of a bank whose erase is torn. -/
def eraB (x m : UInt8) : UInt8 := if m.toNat % 2 = 1 then 255 else x
def eraT (s m : ByteArray) : ByteArray := bs (upto (fun i => eraB (gd (bl s) i 0) (gd (bl m) i 0)) s.size)
def tearF (f : Fl) (o : PwOp) (m : ByteArray) : Fl :=
  if doErr f o = 0 then (if o.kind = 1 then f.setBank o.bank (spliceT (f.bank o.bank) o.q.toNat o.d m) else (eraseF f o.bank).setBank o.bank (eraT (f.bank o.bank) m)) else f
/-- The flash, how many ops were done whole, and the error. -/
def playG (cut : Int) (m : ByteArray) : List PwOp → Fl → Nat → Fl × Nat × Int
  | [], f, i => (f, i, 0)
  | o :: l, f, i => if (i : Int) = cut then (tearF f o m, i, doErr f o) else if doErr f o = 0 then playG cut m l (doF f o) (i + 1) else (f, i, doErr f o)
def playR (f : Fl) (l : List PwOp) (cut : Int) (m : ByteArray) : Fl × Nat × Int := playG cut m l f 0

theorem doF_err {f : Fl} {o : PwOp} (h : doErr f o ≠ 0) : doF f o = f := by
  unfold doErr at h; unfold doF
  by_cases h1 : o.kind = 1
  · rw [if_pos h1] at h ⊢; exact if_neg h
  · rw [if_neg h1] at h ⊢
    by_cases h2 : o.kind = 2
    · rw [if_pos h2] at h ⊢; exact if_neg h
    · rw [if_neg h2]
theorem tearF_err {f : Fl} {o : PwOp} {m : ByteArray} (h : doErr f o ≠ 0) : tearF f o m = f := if_neg h
theorem spliceT_size (s : ByteArray) (q : Nat) (d m : ByteArray) (h : q + d.size ≤ s.size) : (spliceT s q d m).size = s.size := by
  have h1 : (tornB (s.extract q (q + d.size)) d m).size = (s.extract q (q + d.size)).size := tornB_size _ _ _
  unfold spliceT
  simp [h1]
  omega
theorem eraT_size (s m : ByteArray) : (eraT s m).size = s.size := by rw [eraT, bs_size, upto_length]
theorem gd_eraT (s m : ByteArray) (i : Nat) (h : i < s.size) (d : UInt8) : gd (bl (eraT s m)) i d = eraB (gd (bl s) i 0) (gd (bl m) i 0) := by
  rw [eraT, bl_bs, gd_upto', if_pos h]
theorem gd_spliceT (s : ByteArray) (q : Nat) (d m : ByteArray) (h : q + d.size ≤ s.size) (i : Nat) :
    gd (bl (spliceT s q d m)) i 0 = if q ≤ i ∧ i < q + d.size then tb (gd (bl s) i 0) (gd (bl d) (i - q) 255) (gd (bl m) (i - q) 0) else gd (bl s) i 0 := by
  have l1 : (bl (s.extract 0 q)).length = q := by rw [bl_length]; simp; omega
  have l2 : (bl (tornB (s.extract q (q + d.size)) d m)).length = d.size := by rw [bl_length, tornB_size]; simp; omega
  unfold spliceT
  rw [bl_append, bl_append, List.append_assoc, gd_append, l1]
  by_cases h1 : i < q
  · rw [if_pos h1, if_neg (by omega), bl_extract, gd_drop_take, if_pos (by omega), Nat.zero_add]
  · rw [if_neg h1, gd_append, l2]
    by_cases h2 : i - q < d.size
    · rw [if_pos h2, if_pos (by omega), tornB, bl_bs, tornL, gd_upto', if_pos (by rw [bl_length]; simp; omega), tornF, bl_extract, gd_drop_take, if_pos (by omega), show q + (i - q) = i from by omega]
    · rw [if_neg h2, if_neg (by omega), bl_extract, gd_drop_take]
      by_cases h3 : q + d.size + (i - q - d.size) < s.size
      · rw [if_pos h3, show q + d.size + (i - q - d.size) = i from by omega]
      · rw [if_neg h3, gd_out s i 0 (by omega)]
/-- What was torn, and is programmed again, is programmed. -/
theorem splice_spliceT (s : ByteArray) (q : Nat) (d m : ByteArray) (h : q + d.size ≤ s.size) : splice (spliceT s q d m) q d = splice s q d := by
  have hz := spliceT_size s q d m h
  refine bl_ext (by rw [splice_size _ _ _ (by omega), splice_size _ _ _ h, hz]) fun i hi => ?_
  rw [gd_splice _ _ _ (by omega), gd_splice _ _ _ h, gd_spliceT _ _ _ _ h]
  by_cases hc : q ≤ i ∧ i < q + d.size
  · rw [if_pos hc, if_pos hc, if_pos hc]
    apply ext8; intro b hb; simp only [tb, tB_band, tB_bor, tB_bandn _ _ _ hb]
    cases tB (gd (bl s) i 0) b <;> cases tB (gd (bl d) (i - q) 255) b <;> cases tB (gd (bl m) (i - q) 0) b <;> rfl
  · rw [if_neg hc, if_neg hc, if_neg hc]

/-- Whether an op may go well: its bank is 0 or 1. -/
theorem doErr_bank {f : Fl} {o : PwOp} (h : doErr f o = 0) : (o.bank = 0 ∨ o.bank = 1) ∧ (o.kind = 1 ∨ o.kind = 2) := by
  unfold doErr at h
  by_cases h1 : o.kind = 1
  · rw [if_pos h1] at h
    exact ⟨(readErr_zero.1 (progErr_ok h)).1, .inl h1⟩
  · rw [if_neg h1] at h
    by_cases h2 : o.kind = 2
    · rw [if_pos h2] at h
      refine ⟨?_, .inr h2⟩
      unfold eraseErr at h
      by_cases hb : o.bank ≠ 0 ∧ o.bank ≠ 1
      · rw [if_pos hb] at h; cases h
      · omega
    · rw [if_neg h2] at h; cases h
theorem setBank_other (f : Fl) (i : Int) (s : ByteArray) (h : i = 0 ∨ i = 1) : (f.setBank i s).bank (1 - i) = f.bank (1 - i) := by
  unfold Fl.setBank Fl.bank
  rcases h with rfl | rfl <;> simp
theorem setBank_erases (f : Fl) (i j : Int) (s : ByteArray) : (f.setBank i s).erases j = f.erases j := by
  unfold Fl.setBank Fl.erases; by_cases h : i = 0 <;> simp [h]
theorem setBank_lim (f : Fl) (i : Int) (s : ByteArray) : (f.setBank i s).lim = f.lim := by
  unfold Fl.setBank; by_cases h : i = 0 <;> simp [h]
theorem eraseErr_zero {f : Fl} {bank : Int} : eraseErr f bank = 0 ↔ (bank = 0 ∨ bank = 1) ∧ f.erases bank < f.lim := by
  unfold eraseErr
  by_cases h : bank ≠ 0 ∧ bank ≠ 1
  · rw [if_pos h]; constructor
    · intro h; cases h
    · intro k; omega
  · rw [if_neg h]
    by_cases k : f.lim ≤ f.erases bank
    · rw [if_pos k]; constructor
      · intro h; cases h
      · intro k; omega
    · rw [if_neg k]; exact ⟨fun _ => ⟨by omega, by omega⟩, fun _ => rfl⟩
theorem progErr_setBank {f : Fl} {bank : Int} {s : ByteArray} (hs : s.size = (f.bank bank).size) (q : Int) (d : ByteArray) : progErr (f.setBank bank s) bank q d = progErr f bank q d := by
  unfold progErr readErr; rw [setBank_bank, hs]
theorem progF_setBank {f : Fl} {bank : Int} {s : ByteArray} (hs : s.size = (f.bank bank).size) {q : Int} {d : ByteArray} (h : progErr f bank q d = 0) : progF (f.setBank bank s) bank q d = f.setBank bank (splice s q.toNat d) := by
  rw [show progF (f.setBank bank s) bank q d = (f.setBank bank s).setBank bank (splice ((f.setBank bank s).bank bank) q.toNat d) from if_pos ((progErr_setBank hs q d).trans h), setBank_bank, setBank_set]
/-- Only the error of a second erase is of its own. -/
theorem eraseF_banks {f : Fl} {bank : Int} (h : eraseErr f bank = 0) : eraseF f bank = (if bank = 0 then { f with b0 := blankT f.b0.size, e0 := f.e0 + 1 } else { f with b1 := blankT f.b1.size, e1 := f.e1 + 1 }) := if_pos h
theorem blankT_size' (n : Nat) : (blankT n).size = n := by rw [blankT, bs_size, List.length_replicate]
theorem eraseF_ok {f : Fl} (hf : f.ok) (bank : Int) : (eraseF f bank).ok := by
  obtain ⟨h0, h1, h2, h3, h4⟩ := hf
  unfold eraseF
  by_cases h : eraseErr f bank = 0
  · rw [if_pos h]
    obtain ⟨hb, hl⟩ := eraseErr_zero.1 h
    by_cases hz : bank = 0
    · rw [if_pos hz]
      have : f.erases bank = f.e0 := if_pos hz
      rw [this] at hl
      exact ⟨by show (blankT _).size ≤ _; rw [blankT_size']; exact h0, h1, ⟨by show _ ≤ f.e0 + 1; omega, by show f.e0 + 1 ≤ _; omega⟩, h3, h4⟩
    · rw [if_neg hz]
      have : f.erases bank = f.e1 := if_neg hz
      rw [this] at hl
      exact ⟨h0, by show (blankT _).size ≤ _; rw [blankT_size']; exact h1, h2, ⟨by show _ ≤ f.e1 + 1; omega, by show f.e1 + 1 ≤ _; omega⟩, h4⟩
  · rw [if_neg h]; exact ⟨h0, h1, h2, h3, h4⟩
theorem doF_ok {f : Fl} (hf : f.ok) (o : PwOp) : (doF f o).ok := by
  unfold doF
  by_cases h1 : o.kind = 1
  · rw [if_pos h1]; exact progF_ok hf _ _ _
  · rw [if_neg h1]
    by_cases h2 : o.kind = 2
    · rw [if_pos h2]; exact eraseF_ok hf _
    · rw [if_neg h2]; exact hf
theorem setBank_ok {f : Fl} (hf : f.ok) (bank : Int) {s : ByteArray} (hs : s.size = (f.bank bank).size) : (f.setBank bank s).ok := by
  obtain ⟨h0, h1, h2, h3, h4⟩ := hf
  unfold Fl.setBank
  by_cases hb : bank = 0
  · rw [if_pos hb]
    have : f.bank bank = f.b0 := if_pos hb
    exact ⟨by show s.size ≤ _; rw [hs, this]; exact h0, h1, h2, h3, h4⟩
  · rw [if_neg hb]
    have : f.bank bank = f.b1 := if_neg hb
    exact ⟨h0, by show s.size ≤ _; rw [hs, this]; exact h1, h2, h3, h4⟩
theorem eraseF_bank_size (f : Fl) (bank j : Int) : ((eraseF f bank).bank j).size = (f.bank j).size := by
  unfold eraseF
  by_cases h : eraseErr f bank = 0
  · rw [if_pos h]
    by_cases hz : bank = 0
    · rw [if_pos hz]; unfold Fl.bank; by_cases hj : j = 0 <;> simp [hj, blankT_size']
    · rw [if_neg hz]; unfold Fl.bank; by_cases hj : j = 0 <;> simp [hj, blankT_size']
  · rw [if_neg h]
theorem doErr_prog {f : Fl} {o : PwOp} (h1 : o.kind = 1) : doErr f o = progErr f o.bank o.q o.d := if_pos h1
theorem doErr_erase {f : Fl} {o : PwOp} (h2 : o.kind = 2) : doErr f o = eraseErr f o.bank := by unfold doErr; rw [if_neg (by omega), if_pos h2]
theorem doF_prog {f : Fl} {o : PwOp} (h1 : o.kind = 1) : doF f o = progF f o.bank o.q o.d := if_pos h1
theorem doF_erase {f : Fl} {o : PwOp} (h2 : o.kind = 2) : doF f o = eraseF f o.bank := by unfold doF; rw [if_neg (by omega), if_pos h2]
theorem tearF_prog {f : Fl} {o : PwOp} {m : ByteArray} (h : doErr f o = 0) (h1 : o.kind = 1) : tearF f o m = f.setBank o.bank (spliceT (f.bank o.bank) o.q.toNat o.d m) := by
  unfold tearF; rw [if_pos h, if_pos h1]
theorem tearF_erase {f : Fl} {o : PwOp} {m : ByteArray} (h : doErr f o = 0) (h2 : o.kind = 2) : tearF f o m = (eraseF f o.bank).setBank o.bank (eraT (f.bank o.bank) m) := by
  unfold tearF; rw [if_pos h, if_neg (by omega)]
theorem tearF_ok {f : Fl} (hf : f.ok) (o : PwOp) (m : ByteArray) : (tearF f o m).ok := by
  by_cases h : doErr f o = 0
  · rcases (doErr_bank h).2 with h1 | h2
    · rw [tearF_prog h h1]
      exact setBank_ok hf _ (spliceT_size _ _ _ _ (prog_bounds ((doErr_prog h1).symm.trans h)).2)
    · rw [tearF_erase h h2]
      exact setBank_ok (eraseF_ok hf _) _ (by rw [eraT_size, eraseF_bank_size])
  · rw [tearF_err h]; exact hf
/-- What was torn, and is done again, is as if it had been done at once, but for the count of erases. -/
theorem again_banks {f : Fl} {o : PwOp} {m : ByteArray} (h : doErr f o = 0) (k : doErr (tearF f o m) o = 0) :
    (doF (tearF f o m) o).b0 = (doF f o).b0 ∧ (doF (tearF f o m) o).b1 = (doF f o).b1 := by
  rcases (doErr_bank h).2 with h1 | h2
  · have hp := (doErr_prog h1).symm.trans h
    have hz := spliceT_size (f.bank o.bank) o.q.toNat o.d m (prog_bounds hp).2
    rw [doF_prog h1, doF_prog h1, tearF_prog h h1, progF_setBank hz hp, splice_spliceT _ _ _ _ (prog_bounds hp).2]
    rw [show progF f o.bank o.q o.d = f.setBank o.bank (splice (f.bank o.bank) o.q.toNat o.d) from if_pos hp]
    exact ⟨rfl, rfl⟩
  · have he := (doErr_erase h2).symm.trans h
    have hk := (doErr_erase h2).symm.trans k
    rw [doF_erase h2, doF_erase h2, eraseF_banks hk, eraseF_banks he, tearF_erase h h2, eraseF_banks he]
    by_cases hb : o.bank = 0
    · simp only [hb, if_true, Fl.setBank, Fl.bank, eraT_size]
      exact ⟨trivial, trivial⟩
    · simp only [hb, if_false, Fl.setBank, Fl.bank, eraT_size]
      exact ⟨trivial, trivial⟩
/-- What stands behind the cut is as if it was not there. -/
theorem playG_take (c : Nat) (m : ByteArray) (l : List PwOp) (f : Fl) (i : Nat) (h : i ≤ c) : playG (c : Int) m (l.take (c + 1 - i)) f i = playG (c : Int) m l f i := by
  induction l generalizing f i with
  | nil => simp
  | cons o l ih =>
    rw [show c + 1 - i = (c - i) + 1 from by omega, List.take_succ_cons]
    unfold playG
    by_cases hc : (i : Int) = (c : Int)
    · rw [if_pos hc, if_pos hc]
    · rw [if_neg hc, if_neg hc]
      by_cases he : doErr f o = 0
      · rw [if_pos he, if_pos he, show c - i = c + 1 - (i + 1) from by omega]
        exact ih _ _ (by omega)
      · rw [if_neg he, if_neg he]
theorem play_take (c : Nat) (m : ByteArray) (l : List PwOp) (f : Fl) : playR f (l.take (c + 1)) (c : Int) m = playR f l (c : Int) m := playG_take c m l f 0 (by omega)
theorem playG_le (c : Nat) (m : ByteArray) (l : List PwOp) (f : Fl) (i : Nat) (h : i ≤ c) (hl : c < i + l.length) : (playG (c : Int) m l f i).2.1 ≤ c := by
  induction l generalizing f i with
  | nil => simp at hl; omega
  | cons o l ih =>
    unfold playG
    by_cases hc : (i : Int) = (c : Int)
    · rw [if_pos hc]; exact h
    · rw [if_neg hc]
      by_cases he : doErr f o = 0
      · rw [if_pos he]; exact ih _ _ (by omega) (by rw [List.length_cons] at hl; omega)
      · rw [if_neg he]; exact h
theorem play_le (c : Nat) (m : ByteArray) (l : List PwOp) (f : Fl) (hl : c < l.length) : (playR f l (c : Int) m).2.1 ≤ c := playG_le c m l f 0 (by omega) (by omega)
theorem play_step {cut : Int} {m : ByteArray} {l : List PwOp} {f : Fl} {k : Nat} {o : PwOp} (h : l[k]? = some o) (hc : (k : Int) ≠ cut) (he : doErr f o = 0) : playG cut m (l.drop k) f k = playG cut m (l.drop (k + 1)) (doF f o) (k + 1) := by
  have hk : k < l.length := (List.getElem?_eq_some_iff.1 h).1
  rw [List.drop_eq_getElem_cons hk, show l[k] = o from (List.getElem?_eq_some_iff.1 h).2]
  conv => lhs; unfold playG
  rw [if_neg hc, if_pos he]
theorem play_stop {cut : Int} {m : ByteArray} {l : List PwOp} {f : Fl} {k : Nat} {o : PwOp} (h : l[k]? = some o) (hc : (k : Int) ≠ cut) (he : doErr f o ≠ 0) : playG cut m (l.drop k) f k = (f, k, doErr f o) := by
  have hk : k < l.length := (List.getElem?_eq_some_iff.1 h).1
  rw [List.drop_eq_getElem_cons hk, show l[k] = o from (List.getElem?_eq_some_iff.1 h).2]
  conv => lhs; unfold playG
  rw [if_neg hc, if_neg he]
theorem play_end {cut : Int} {m : ByteArray} {l : List PwOp} {f : Fl} : playG cut m (l.drop l.length) f l.length = (f, l.length, 0) := by
  rw [List.drop_length]; rfl
end Go.Proofs.YthmpjoiifglbjaaGreat

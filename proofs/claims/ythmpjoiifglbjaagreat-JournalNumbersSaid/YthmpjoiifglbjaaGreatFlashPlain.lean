/- Plain laws of flashes: no statement is proved here. -/
import Derived.Test.YthmpjoiifglbjaaGreatFlash
namespace Go.Proofs.YthmpjoiifglbjaaGreat
set_option linter.unusedVariables false

theorem gd_append (l m : List UInt8) (i : Nat) (d : UInt8) : gd (l ++ m) i d = if i < l.length then gd l i d else gd m (i - l.length) d := by
  unfold gd; rw [List.getElem?_append]; split <;> rfl
theorem gd_drop_take (l : List UInt8) (a b i : Nat) (d : UInt8) : gd ((l.take b).drop a) i d = if a + i < b then gd l (a + i) d else d := by
  unfold gd
  rw [List.getElem?_drop, List.getElem?_take]
  split <;> rfl
theorem splice_size (s : ByteArray) (q : Nat) (d : ByteArray) (h : q + d.size ≤ s.size) : (splice s q d).size = s.size := by
  have h1 : (andB (s.extract q (q + d.size)) d).size = (s.extract q (q + d.size)).size := andB_size _ _
  unfold splice
  simp [h1]
  omega
theorem setBank_bank (f : Fl) (i : Int) (s : ByteArray) : (f.setBank i s).bank i = s := by
  unfold Fl.setBank Fl.bank; by_cases h : i = 0 <;> simp [h]
theorem setBank_set (f : Fl) (i : Int) (s t : ByteArray) : (f.setBank i s).setBank i t = f.setBank i t := by
  unfold Fl.setBank; by_cases h : i = 0 <;> simp [h]
theorem prog_bounds {f : Fl} {bank q : Int} {d : ByteArray} (h : progErr f bank q d = 0) : 0 ≤ q ∧ q.toNat + d.size ≤ (f.bank bank).size := by
  unfold progErr at h
  by_cases h0 : readErr f bank q d.size = 0
  · unfold readErr at h0
    split at h0
    · omega
    · split at h0
      · omega
      · omega
  · rw [if_pos h0] at h; exact absurd h h0
theorem progF_bank_size (f : Fl) (bank q : Int) (d : ByteArray) : ((progF f bank q d).bank bank).size = (f.bank bank).size := by
  unfold progF
  by_cases h : progErr f bank q d = 0
  · rw [if_pos h, setBank_bank, splice_size _ _ _ (prog_bounds h).2]
  · rw [if_neg h]
theorem progErr_prog (f : Fl) (bank q r : Int) (d e : ByteArray) : progErr (progF f bank q d) bank r e = progErr f bank r e := by
  unfold progErr readErr
  rw [progF_bank_size]
theorem progF_ok {f : Fl} (hf : f.ok) (bank q : Int) (d : ByteArray) : (progF f bank q d).ok := by
  obtain ⟨h0, h1, h2, h3, h4⟩ := hf
  unfold progF
  by_cases h : progErr f bank q d = 0
  · rw [if_pos h]
    have hs := splice_size (f.bank bank) q.toNat d (prog_bounds h).2
    unfold Fl.setBank
    by_cases hb : bank = 0
    · rw [if_pos hb]; subst hb
      exact ⟨by show (splice _ _ _).size ≤ _; rw [hs]; exact h0, h1, h2, h3, h4⟩
    · rw [if_neg hb]
      have : f.bank bank = f.b1 := if_neg hb
      exact ⟨h0, by show (splice _ _ _).size ≤ _; rw [hs, this]; exact h1, h2, h3, h4⟩
  · rw [if_neg h]; exact ⟨h0, h1, h2, h3, h4⟩
/-- The byte of a spliced text at a place. -/
theorem gd_splice (s : ByteArray) (q : Nat) (d : ByteArray) (h : q + d.size ≤ s.size) (i : Nat) :
    gd (bl (splice s q d)) i 0 = if q ≤ i ∧ i < q + d.size then band (gd (bl s) i 0) (gd (bl d) (i - q) 255) else gd (bl s) i 0 := by
  have l1 : (bl (s.extract 0 q)).length = q := by rw [bl_length]; simp; omega
  have l2 : (bl (andB (s.extract q (q + d.size)) d)).length = d.size := by rw [bl_length, andB_size]; simp; omega
  unfold splice
  rw [bl_append, bl_append, List.append_assoc, gd_append, l1]
  by_cases h1 : i < q
  · rw [if_pos h1, if_neg (by omega), bl_extract, gd_drop_take, if_pos (by omega), Nat.zero_add]
  · rw [if_neg h1, gd_append, l2]
    by_cases h2 : i - q < d.size
    · rw [if_pos h2, if_pos (by omega), andB, bl_bs, andL, gd_upto', if_pos (by rw [bl_length]; simp; omega), andF, bl_extract, gd_drop_take, if_pos (by omega), show q + (i - q) = i from by omega]
    · rw [if_neg h2, if_neg (by omega), bl_extract, gd_drop_take]
      by_cases h3 : q + d.size + (i - q - d.size) < s.size
      · rw [if_pos h3, show q + d.size + (i - q - d.size) = i from by omega]
      · rw [if_neg h3, gd_out s i 0 (by omega)]
theorem bl_ext {s t : ByteArray} (hl : s.size = t.size) (h : ∀ i, i < s.size → gd (bl s) i 0 = gd (bl t) i 0) : s = t := by
  apply bl_inj
  apply List.ext_getElem
  · rw [bl_length, bl_length, hl]
  · intro i h1 h2
    have := h i (by rw [← bl_length]; exact h1)
    simpa [gd, h1, h2] using this
theorem splice_twice (s : ByteArray) (q : Nat) (d : ByteArray) (h : q + d.size ≤ s.size) : splice (splice s q d) q d = splice s q d := by
  have hz := splice_size s q d h
  refine bl_ext (by rw [splice_size _ _ _ (by omega)]) fun i hi => ?_
  rw [gd_splice _ _ _ (by omega), gd_splice _ _ _ h]
  by_cases hc : q ≤ i ∧ i < q + d.size
  · rw [if_pos hc, if_pos hc]
    apply ext8; intro b hb; simp only [tB_band]
    cases tB (gd (bl s) i 0) b <;> cases tB (gd (bl d) (i - q) 255) b <;> rfl
  · rw [if_neg hc, if_neg hc]
theorem splice_comm (s : ByteArray) (q r : Nat) (d e : ByteArray) (h : q + d.size ≤ s.size) (k : r + e.size ≤ s.size) : splice (splice s q d) r e = splice (splice s r e) q d := by
  have hz := splice_size s q d h
  have hy := splice_size s r e k
  refine bl_ext (by rw [splice_size _ _ _ (by omega), hz, splice_size _ _ _ (by omega), hy]) fun i hi => ?_
  rw [gd_splice _ _ _ (by omega), gd_splice _ _ _ h, gd_splice _ _ _ (by omega), gd_splice _ _ _ k]
  by_cases hc : q ≤ i ∧ i < q + d.size <;> by_cases hd : r ≤ i ∧ i < r + e.size <;> simp only [hc, hd, if_true, if_false, and_self]
  apply ext8; intro b hb; simp only [tB_band]
  cases tB (gd (bl s) i 0) b <;> cases tB (gd (bl d) (i - q) 255) b <;> cases tB (gd (bl e) (i - r) 255) b <;> rfl
theorem prog_idem (f : Fl) (bank q : Int) (d : ByteArray) : progF (progF f bank q d) bank q d = progF f bank q d := by
  by_cases h : progErr f bank q d = 0
  · have h1 : progF f bank q d = f.setBank bank (splice (f.bank bank) q.toNat d) := if_pos h
    have h2 : progErr (progF f bank q d) bank q d = 0 := by rw [progErr_prog]; exact h
    rw [show progF (progF f bank q d) bank q d = (progF f bank q d).setBank bank (splice ((progF f bank q d).bank bank) q.toNat d) from if_pos h2, h1, setBank_bank, setBank_set, splice_twice _ _ _ (prog_bounds h).2]
  · have h1 : progF f bank q d = f := if_neg h
    rw [h1, h1]
theorem prog_comm (f : Fl) (bank q r : Int) (d e : ByteArray) : progF (progF f bank r e) bank q d = progF (progF f bank q d) bank r e := by
  have a1 := progErr_prog f bank r q e d
  have a2 := progErr_prog f bank q r d e
  by_cases h : progErr f bank q d = 0
  · have h1 : progF f bank q d = f.setBank bank (splice (f.bank bank) q.toNat d) := if_pos h
    by_cases k : progErr f bank r e = 0
    · have k1 : progF f bank r e = f.setBank bank (splice (f.bank bank) r.toNat e) := if_pos k
      rw [show progF (progF f bank r e) bank q d = (progF f bank r e).setBank bank (splice ((progF f bank r e).bank bank) q.toNat d) from if_pos (a1.trans h),
        show progF (progF f bank q d) bank r e = (progF f bank q d).setBank bank (splice ((progF f bank q d).bank bank) r.toNat e) from if_pos (a2.trans k),
        h1, k1, setBank_bank, setBank_bank, setBank_set, setBank_set, splice_comm _ _ _ _ _ (prog_bounds k).2 (prog_bounds h).2]
    · have k1 : progF f bank r e = f := if_neg k
      have k2 : progF (progF f bank q d) bank r e = progF f bank q d := if_neg (by rw [a2]; exact k)
      rw [k1, k2]
  · have h1 : progF f bank q d = f := if_neg h
    have h2 : progF (progF f bank r e) bank q d = progF f bank r e := if_neg (by rw [a1]; exact h)
    rw [h1, h2]
theorem readErr_zero {f : Fl} {bank q n : Int} : readErr f bank q n = 0 ↔ (bank = 0 ∨ bank = 1) ∧ 0 ≤ q ∧ 0 ≤ n ∧ q + n ≤ (f.bank bank).size := by
  unfold readErr
  by_cases h : bank ≠ 0 ∧ bank ≠ 1
  · rw [if_pos h]; constructor
    · intro h; cases h
    · intro k; omega
  · rw [if_neg h]
    by_cases k : 0 ≤ q ∧ 0 ≤ n ∧ q + n ≤ (f.bank bank).size
    · rw [if_pos k]; exact ⟨fun _ => ⟨by omega, k⟩, fun _ => rfl⟩
    · rw [if_neg k]; exact ⟨(fun h => by cases h), fun h => absurd h.2 k⟩
theorem readErr_parts {f : Fl} {bank q n m : Int} (hn : 0 ≤ n) (hm : 0 ≤ m) (h : readErr f bank q (n + m) = 0) : readErr f bank q n = 0 ∧ readErr f bank (q + n) m = 0 := by
  obtain ⟨h1, h2, h3, h4⟩ := readErr_zero.1 h
  exact ⟨readErr_zero.2 ⟨h1, h2, hn, by omega⟩, readErr_zero.2 ⟨h1, by omega, hm, by omega⟩⟩
theorem readErr_whole {f : Fl} {bank q n m : Int} (hn : 0 ≤ n) (hm : 0 ≤ m) (h : readErr f bank q n = 0) (k : readErr f bank (q + n) m = 0) : readErr f bank q (n + m) = 0 := by
  obtain ⟨h1, h2, h3, h4⟩ := readErr_zero.1 h
  obtain ⟨k1, k2, k3, k4⟩ := readErr_zero.1 k
  exact readErr_zero.2 ⟨h1, h2, by omega, by omega⟩
theorem readT_none {f : Fl} {bank q n : Int} (h : ¬ readErr f bank q n = 0) : readT f bank q n = ⟨#[]⟩ := if_neg h
theorem readT_some {f : Fl} {bank q n : Int} (h : readErr f bank q n = 0) : readT f bank q n = (f.bank bank).extract q.toNat (q + n).toNat := if_pos h
theorem readT_size {f : Fl} {bank q n : Int} (h : readErr f bank q n = 0) : ((readT f bank q n).size : Int) = n := by
  obtain ⟨h1, h2, h3, h4⟩ := readErr_zero.1 h
  rw [readT_some h]; simp; omega
theorem extract_parts (s : ByteArray) (a b c : Nat) (h1 : a ≤ b) (h2 : b ≤ c) : s.extract a b ++ s.extract b c = s.extract a c := by
  apply bl_inj
  rw [bl_append, bl_extract, bl_extract, bl_extract]
  have : (bl s).take c = (bl s).take b ++ ((bl s).take c).drop b := by
    have := (List.take_append_drop b ((bl s).take c)).symm
    rwa [List.take_take, Nat.min_eq_left h2] at this
  rw [show ((bl s).take c).drop a = ((bl s).take b ++ ((bl s).take c).drop b).drop a from by rw [← this], List.drop_append]
  by_cases hb : b ≤ (bl s).length
  · rw [show a - ((bl s).take b).length = 0 from by rw [List.length_take]; omega, List.drop_zero]
  · have e : ((bl s).take c).drop b = [] := List.drop_eq_nil_of_le (by rw [List.length_take]; omega)
    rw [e]; simp
theorem readT_parts {f : Fl} {bank q n m : Int} (hn : 0 ≤ n) (hm : 0 ≤ m) (h : readErr f bank q (n + m) = 0) : readT f bank q (n + m) = readT f bank q n ++ readT f bank (q + n) m := by
  obtain ⟨k1, k2⟩ := readErr_parts hn hm h
  obtain ⟨h1, h2, h3, h4⟩ := readErr_zero.1 h
  rw [readT_some h, readT_some k1, readT_some k2, extract_parts _ _ _ _ (by omega) (by omega), Int.add_assoc]
theorem progErr_read {f : Fl} {bank q : Int} {d : ByteArray} (h : ¬ readErr f bank q d.size = 0) : progErr f bank q d = readErr f bank q d.size := by
  unfold progErr; rw [if_pos h]
theorem progErr_align {f : Fl} {bank q : Int} {d : ByteArray} (h : readErr f bank q d.size = 0) (k : ¬ progErr f bank q d = 0) : progErr f bank q d = 3 := by
  unfold progErr at k ⊢
  rw [if_neg (by rw [h]; decide)] at k ⊢
  by_cases c : q % 2 ≠ 0 ∨ d.size % 2 ≠ 0
  · rw [if_pos c]
  · rw [if_neg c] at k; exact absurd rfl k
theorem progErr_ok {f : Fl} {bank q : Int} {d : ByteArray} (h : progErr f bank q d = 0) : readErr f bank q d.size = 0 := by
  by_cases k : readErr f bank q d.size = 0
  · exact k
  · rw [progErr_read k] at h; exact absurd h k
theorem progF_none {f : Fl} {bank q : Int} {d : ByteArray} (h : ¬ progErr f bank q d = 0) : progF f bank q d = f := if_neg h
theorem splice_read (s : ByteArray) (q : Nat) (d : ByteArray) (h : q + d.size ≤ s.size) : (splice s q d).extract q (q + d.size) = andB (s.extract q (q + d.size)) d := by
  have hz := splice_size s q d h
  have h1 : ((splice s q d).extract q (q + d.size)).size = d.size := by simp; omega
  refine bl_ext (by rw [h1, andB_size]; simp; omega) fun i hi => ?_
  rw [h1] at hi
  rw [bl_extract, gd_drop_take, if_pos (by omega), gd_splice s q d h, if_pos (by omega), andB, bl_bs, andL, gd_upto', if_pos (by rw [bl_length]; simp; omega), andF, bl_extract, gd_drop_take, if_pos (by omega), show q + i - q = i from by omega]
theorem read_prog {f : Fl} {bank q : Int} {d : ByteArray} (h : progErr f bank q d = 0) : readT (progF f bank q d) bank q d.size = andB (readT f bank q d.size) d := by
  have h0 := progErr_ok h
  have h1 : readErr (progF f bank q d) bank q d.size = 0 := by
    obtain ⟨a1, a2, a3, a4⟩ := readErr_zero.1 h0
    exact readErr_zero.2 ⟨a1, a2, a3, by rw [progF_bank_size]; exact a4⟩
  obtain ⟨k1, k2⟩ := prog_bounds h
  rw [readT_some h1, readT_some h0, show progF f bank q d = f.setBank bank (splice (f.bank bank) q.toNat d) from if_pos h, setBank_bank]
  rw [show (q + (d.size : Int)).toNat = q.toNat + d.size from by omega]
  exact splice_read _ _ _ k2
theorem blank_gd {s : ByteArray} (h : blankB s = true) (i : Nat) (hi : i < s.size) : gd (bl s) i 0 = 255 := by
  unfold blankB at h
  rw [gd_in s i 0 hi]
  have := List.all_eq_true.1 h s[i] (by
    have hl : i < (bl s).length := by rw [bl_length]; exact hi
    exact List.getElem_mem hl)
  simpa using this
theorem blank_and {s d : ByteArray} (h : blankB s = true) (hs : s.size = d.size) : andB s d = d := by
  refine bl_ext (by rw [andB_size, hs]) fun i hi => ?_
  rw [andB_size] at hi
  rw [andB, bl_bs, andL, gd_upto', if_pos (by rw [bl_length]; exact hi), andF, blank_gd h i hi, gd_in d i 0 (by omega), gd_in d i 255 (by omega)]
  apply ext8; intro b hb; simp only [tB_band, tB_255 b hb]; cases tB d[i] b <;> rfl
theorem splice_low (s : ByteArray) (q : Nat) (d : ByteArray) (h : q + d.size ≤ s.size) : (splice s q d).extract 0 q = s.extract 0 q := by
  have hz := splice_size s q d h
  refine bl_ext (by simp; omega) fun i hi => ?_
  have hi2 : i < q := by simp at hi; omega
  rw [bl_extract, bl_extract, gd_drop_take, gd_drop_take, if_pos (by omega), if_pos (by omega), gd_splice s q d h, if_neg (by omega)]
theorem splice_high (s : ByteArray) (q : Nat) (d : ByteArray) (h : q + d.size ≤ s.size) : (splice s q d).extract (q + d.size) s.size = s.extract (q + d.size) s.size := by
  have hz := splice_size s q d h
  refine bl_ext (by simp; omega) fun i hi => ?_
  have hi2 : q + d.size + i < s.size := by simp at hi; omega
  rw [bl_extract, bl_extract, gd_drop_take, gd_drop_take, if_pos (by omega), if_pos (by omega), gd_splice s q d h, if_neg (by omega)]
theorem splice_bits (s : ByteArray) (q : Nat) (d : ByteArray) (h : q + d.size ≤ s.size) : bitsL (bl (splice s q d)) (bl s) = 0 := by
  unfold bitsL
  have hz := splice_size s q d h
  rw [bl_length, hz]
  have key : ∀ n, n ≤ s.size → bitsTo (bl (splice s q d)) (bl s) n = 0 := by
    intro n
    induction n with
    | zero => intro _; rfl
    | succ n ih =>
      intro hn
      rw [bitsTo_succ, ih (by omega)]
      unfold bitsF
      rw [gd_splice s q d h, show gd (bl s) n 255 = gd (bl s) n 0 from by rw [gd_in s n 255 (by omega), gd_in s n 0 (by omega)]]
      have e : bandn (if q ≤ n ∧ n < q + d.size then band (gd (bl s) n 0) (gd (bl d) (n - q) 255) else gd (bl s) n 0) (gd (bl s) n 0) = 0 := by
        apply ext8; intro b hb
        rw [tB_bandn _ _ _ hb, tB_zero]
        split
        · rw [tB_band]; cases tB (gd (bl s) n 0) b <;> simp
        · cases tB (gd (bl s) n 0) b <;> rfl
      rw [e]; decide
  exact key _ (Nat.le_refl _)
theorem splice_and (s : ByteArray) (q : Nat) (d : ByteArray) (h : q + d.size ≤ s.size) : andB ((splice s q d).extract q (q + d.size)) d = (splice s q d).extract q (q + d.size) := by
  rw [splice_read s q d h]
  generalize s.extract q (q + d.size) = x
  refine bl_ext (by rw [andB_size]) fun i hi => ?_
  have hi2 : i < x.size := by rwa [andB_size, andB_size] at hi
  rw [andB, bl_bs, andL, gd_upto', if_pos (by rw [bl_length, andB_size]; exact hi2), andF, andB, bl_bs, andL, gd_upto', if_pos (by rw [bl_length]; exact hi2), andF]
  apply ext8; intro b hb; simp only [tB_band]
  cases tB (gd (bl x) i 0) b <;> cases tB (gd (bl d) i 255) b <;> rfl
end Go.Proofs.YthmpjoiifglbjaaGreat

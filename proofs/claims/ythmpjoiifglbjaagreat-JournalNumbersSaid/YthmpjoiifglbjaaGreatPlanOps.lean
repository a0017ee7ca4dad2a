/- Ops of plans fit; closed facts on a small journal; plain laws: no statement is proved here. -/
import Derived.Test.YthmpjoiifglbjaaGreatPower
import Derived.Test.YthmpjoiifglbjaaGreatFlashOwn
import Derived.Test.YthmpjoiifglbjaaGreatJourRes
import Derived.KernelRfl
namespace Go.Proofs.YthmpjoiifglbjaaGreat
set_option linter.unusedVariables false

theorem fit_of_banks {f g : Fl} (hf : f.fit) (hg : g.ok) (h : ∀ j, (g.bank j).size = (f.bank j).size) : g.fit :=
  ⟨hg, by have k := h 0; exact Nat.le_trans (Nat.le_of_eq k) hf.z0, by have k := h 1; exact Nat.le_trans (Nat.le_of_eq k) hf.z1⟩
theorem setBank_size (f : Fl) (i : Int) (s : ByteArray) (h : s.size = (f.bank i).size) (j : Int) : ((f.setBank i s).bank j).size = (f.bank j).size := by
  unfold Fl.setBank Fl.bank at *
  by_cases hi : i = 0 <;> by_cases hj : j = 0 <;> simp_all
theorem eraseF_fit {f : Fl} (hf : f.fit) (bank : Int) : (eraseF f bank).fit := fit_of_banks hf (eraseF_ok hf.ok bank) (eraseF_bank_size f bank)
theorem doF_fit {f : Fl} (hf : f.fit) (o : PwOp) : (doF f o).fit := by
  unfold doF
  by_cases h1 : o.kind = 1
  · rw [if_pos h1]; exact progF_fit hf _ _ _
  · rw [if_neg h1]
    by_cases h2 : o.kind = 2
    · rw [if_pos h2]; exact eraseF_fit hf _
    · rw [if_neg h2]; exact hf
theorem tearF_fit {f : Fl} (hf : f.fit) (o : PwOp) (m : ByteArray) : (tearF f o m).fit := by
  refine fit_of_banks hf (tearF_ok hf.ok o m) fun j => ?_
  by_cases h : doErr f o = 0
  · rcases (doErr_bank h).2 with h1 | h2
    · rw [tearF_prog h h1]
      exact setBank_size _ _ _ (spliceT_size _ _ _ _ (prog_bounds ((doErr_prog h1).symm.trans h)).2) _
    · rw [tearF_erase h h2, setBank_size _ _ _ (by rw [eraT_size, eraseF_bank_size]), eraseF_bank_size]
  · rw [tearF_err h]
/-- The mask that leaves what an erase did not reach. -/
def unrB (m : UInt8) : UInt8 := if m.toNat % 2 = 1 then 0 else 255
def unrF (m : ByteArray) (i : Nat) : UInt8 := unrB (gd (bl m) i 0)
def unrT (m : ByteArray) (n : Nat) : ByteArray := bs (upto (unrF m) n)
theorem unrT_size (m : ByteArray) (n : Nat) : (unrT m n).size = n := by rw [unrT, bs_size, upto_length]
theorem gd_blank (n i : Nat) (h : i < n) (d : UInt8) : gd (bl (blankT n)) i d = 255 := by
  rw [blankT, bl_bs]; unfold gd; rw [List.getElem?_replicate, if_pos h]; rfl
theorem era_splice (s m : ByteArray) : spliceT (blankT s.size) 0 s (unrT m s.size) = eraT s m := by
  have hz := spliceT_size (blankT s.size) 0 s (unrT m s.size) (by rw [blankT_size']; omega)
  refine bl_ext (by rw [hz, blankT_size', eraT_size]) fun i hi => ?_
  rw [hz, blankT_size'] at hi
  rw [gd_spliceT _ _ _ _ (by rw [blankT_size']; omega), if_pos (by omega), gd_eraT s m i hi, gd_blank _ _ hi, Nat.sub_zero, unrT, bl_bs, gd_upto', if_pos hi, unrF, unrB, eraB]
  rw [gd_in s i 255 hi, gd_in s i 0 hi]
  split
  · apply ext8; intro b hb; simp only [tb, tB_band, tB_bor, tB_bandn _ _ _ hb, tB_255 b hb, tB_zero]
    first | rfl | (cases tB s[i] b <;> rfl)
  · apply ext8; intro b hb; simp only [tb, tB_band, tB_bor, tB_bandn _ _ _ hb, tB_255 b hb]
    cases tB s[i] b <;> rfl
theorem play_cut {m : ByteArray} {l : List PwOp} {f : Fl} {k : Nat} {o : PwOp} (h : l[k]? = some o) : playG (k : Int) m (l.drop k) f k = (tearF f o m, k, doErr f o) := by
  have hk : k < l.length := (List.getElem?_eq_some_iff.1 h).1
  rw [List.drop_eq_getElem_cons hk, show l[k] = o from (List.getElem?_eq_some_iff.1 h).2]
  unfold playG
  rw [if_pos rfl]
/-- A row that is filled place by place. -/
def filled (f : Nat → UInt8) (k n : Nat) : List UInt8 := (List.range n).map fun j => if j < k then f j else 0
theorem filled_length (f : Nat → UInt8) (k n : Nat) : (filled f k n).length = n := by simp [filled]
theorem filled_zero (f : Nat → UInt8) (n : Nat) : filled f 0 n = List.replicate n 0 := by
  apply List.ext_getElem
  · simp [filled]
  · intro i h1 h2; simp [filled]
theorem filled_set (f : Nat → UInt8) (k n : Nat) (h : k < n) : (filled f k n).set k (f k) = filled f (k + 1) n := by
  apply List.ext_getElem
  · simp [filled]
  · intro i h1 h2
    simp only [filled, List.getElem_set, List.getElem_map, List.getElem_range]
    by_cases e : k = i
    · subst e; simp
    · rw [if_neg e]
      by_cases h3 : i < k
      · rw [if_pos h3, if_pos (by omega)]
      · rw [if_neg h3, if_neg (by omega)]
theorem filled_skip (f : Nat → UInt8) (k n : Nat) (h : f k = 0) : filled f k n = filled f (k + 1) n := by
  apply List.ext_getElem
  · simp [filled]
  · intro i h1 h2
    simp only [filled, List.getElem_map, List.getElem_range]
    by_cases h3 : i < k
    · rw [if_pos h3, if_pos (by omega)]
    · rw [if_neg h3]
      by_cases e : k = i
      · subst e; rw [if_pos (by omega), h]
      · rw [if_neg (by omega)]
theorem filled_all (f : Nat → UInt8) (n : Nat) : filled f n n = upto f n := by
  apply List.ext_getElem
  · rw [filled_length, upto_length]
  · intro i h1 h2
    rw [filled_length] at h1
    have := upto_get f n i h1
    rw [List.getElem?_eq_getElem h2] at this
    simp [filled, h1]
    exact (Option.some.inj this).symm
end Go.Proofs.YthmpjoiifglbjaaGreat
namespace Go.Proofs.YthmpjoiifglbjaaGreat
set_option linter.unusedVariables false

theorem op_ok {k b q : Int} {d : ByteArray} (hk : 0 ≤ k ∧ k ≤ 2) (hb : b = 0 ∨ b = 1) (hq : 0 ≤ q ∧ q ≤ 1000) (hd : d.size ≤ 30) : PwOp.ok ⟨k, b, q, d⟩ :=
  ⟨⟨by show (-9223372036854775808 : Int) ≤ k; omega, by show k ≤ 9223372036854775807; omega⟩, ⟨by show (-9223372036854775808 : Int) ≤ b; omega, by show b ≤ 9223372036854775807; omega⟩, ⟨by show (-9223372036854775808 : Int) ≤ q; omega, by show q ≤ 9223372036854775807; omega⟩, by show d.size ≤ maxLen; unfold maxLen; omega⟩
theorem fresh_ops_ok {o : Int} (ho : o = 0 ∨ o = 1) (kill : Bool) (g seq d : Nat) : ∀ x ∈ freshL o kill g seq d, x.ok := by
  have hb : ∀ x ∈ freshO o g seq d, x.ok := fun x hx => by
    simp only [freshO, List.mem_cons, List.not_mem_nil, or_false] at hx
    rcases hx with rfl | rfl | rfl | rfl | rfl
    · exact op_ok (by decide) ho (by decide) (by decide)
    · exact op_ok (by decide) ho (by decide) (by rw [body_bs]; decide)
    · exact op_ok (by decide) ho (by decide) (by decide)
    · exact op_ok (by decide) ho (by decide) (by rw [body_bs]; decide)
    · exact op_ok (by decide) ho (by decide) (by decide)
  intro x hx
  unfold freshL at hx
  split at hx
  · rcases List.mem_cons.1 hx with rfl | h
    · exact op_ok (by decide) ho (by decide) (by decide)
    · exact hb x h
  · exact hb x hx
theorem plan_ops_ok (f : Fl) (d : Nat) : ∀ x ∈ (planR f d).1, x.ok := by
  cases plan_is f d with
  | none h l => rw [l]; intro x hx; cases hx
  | app i hb hn hs h =>
    rw [h]
    obtain ⟨hle, _, _⟩ := next_all hn
    have hN := slotsN_le (f.bank (bankK f))
    dsimp only
    rw [appL_is _ (by omega)]
    intro x hx
    simp only [List.mem_cons, List.not_mem_nil, or_false] at hx
    rcases hx with rfl | rfl
    · exact op_ok (by decide) hb (by omega) (by rw [body_bs]; decide)
    · exact op_ok (by decide) hb (by omega) (by decide)
  | first o ho hb he h => rw [h]; exact fresh_ops_ok ho _ _ _ _
  | next hb hn hs hg he h => rw [h]; exact fresh_ops_ok (by omega) _ _ _ _
theorem playG_fit (cut : Int) (m : ByteArray) : ∀ (l : List PwOp) (f : Fl) (i : Nat), f.fit → (playG cut m l f i).1.fit
  | [], f, i, h => h
  | o :: l, f, i, h => by
    unfold playG
    split
    · exact tearF_fit h o m
    · split
      · exact playG_fit cut m l _ _ (doF_fit h o)
      · exact h
theorem play_fit {f : Fl} (h : f.fit) (l : List PwOp) (cut : Int) (m : ByteArray) : (playR f l cut m).1.fit := playG_fit cut m l f 0 h
theorem fit_400 {f : Fl} (h : f.ok) (z0 : f.b0.size ≤ 400) (z1 : f.b1.size ≤ 400) : f.fit := ⟨h, by omega, by omega⟩

theorem pickS_seq_lt (f : Fl) : (pickS f).seq < 18446744073709551616 := by
  rcases bankK_cases f with h | h | h
  · rw [pickS_some (Or.inr h)]; exact (lastR_lt _).1
  · rw [pickS_some (Or.inl h)]; exact (lastR_lt _).1
  · rw [pickS_none (by omega)]; decide

def pn0 : Fl := newF 72 5

def pn1 : Fl := (playR pn0 (planR pn0 7).1 (-1) ⟨#[]⟩).1

def pn2 : Fl := (playR pn1 (planR pn1 8).1 (-1) ⟨#[]⟩).1

theorem pn_p0 : (planR pn0 7).2 = 0 ∧ (planR pn0 7).1.length = 5 := ⟨by kernel_rfl, by kernel_rfl⟩
theorem pn_y0 : (playR pn0 (planR pn0 7).1 (-1) ⟨#[]⟩).2 = (5, 0) := by kernel_rfl
theorem pn_p1 : (planR pn1 8).2 = 0 ∧ (planR pn1 8).1.length = 2 := ⟨by kernel_rfl, by kernel_rfl⟩
theorem pn_y1 : (playR pn1 (planR pn1 8).1 (-1) ⟨#[]⟩).2 = (2, 0) := by kernel_rfl
theorem pn_r : pickE pn2 = 0 ∧ pickS pn2 = ⟨0, 1, 2, 8⟩ := ⟨by kernel_rfl, by kernel_rfl⟩
theorem newF_fit (size lim : Int) (hs : size ≤ 140737488351232) : (newF size lim).fit := by
  unfold newF
  split
  · exact ⟨⟨Nat.zero_le _, Nat.zero_le _, ⟨by show (-9223372036854775808 : Int) ≤ 0; decide, by show (0 : Int) ≤ 9223372036854775807; decide⟩, ⟨by show (-9223372036854775808 : Int) ≤ 0; decide, by show (0 : Int) ≤ 9223372036854775807; decide⟩, ⟨by show (-9223372036854775808 : Int) ≤ 0; decide, by show (0 : Int) ≤ 9223372036854775807; decide⟩⟩, Nat.zero_le _, Nat.zero_le _⟩
  · have hz : (blankT size.toNat).size ≤ 140737488351232 := by rw [blankT_size']; omega
    exact ⟨⟨by unfold maxLen; show (blankT size.toNat).size ≤ _; omega, by unfold maxLen; show (blankT size.toNat).size ≤ _; omega, ⟨by show (-9223372036854775808 : Int) ≤ 0; decide, by show (0 : Int) ≤ 9223372036854775807; decide⟩, ⟨by show (-9223372036854775808 : Int) ≤ 0; decide, by show (0 : Int) ≤ 9223372036854775807; decide⟩, ⟨by show (-9223372036854775808 : Int) ≤ lim; omega, by show lim ≤ 9223372036854775807; omega⟩⟩, hz, hz⟩
theorem pn_ok0 : pn0.fit := newF_fit 72 5 (by decide)
theorem pn_ok1 : pn1.fit := play_fit pn_ok0 _ _ _
theorem pn_ok2 : pn2.fit := play_fit pn_ok1 _ _ _
end Go.Proofs.YthmpjoiifglbjaaGreat

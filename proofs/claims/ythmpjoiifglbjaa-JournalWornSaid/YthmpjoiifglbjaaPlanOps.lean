/- Ops of plans fit; closed facts on a small journal; plain laws: no statement is proved here. -/
import Derived.Test.YthmpjoiifglbjaaJourRes
import Derived.Test.YthmpjoiifglbjaaPowerFit
import Derived.KernelRfl
namespace Go.Proofs.Ythmpjoiifglbjaa
set_option linter.unusedVariables false

theorem op_ok {k b q : Int} {d : ByteArray} (hk : 0 ≤ k ∧ k ≤ 2) (hb : b = 0 ∨ b = 1) (hq : 0 ≤ q ∧ q ≤ 1000) (hd : d.size ≤ 30) : PwOp.ok ⟨k, b, q, d⟩ :=
  ⟨⟨by show (-9223372036854775808 : Int) ≤ k; omega, by show k ≤ 9223372036854775807; omega⟩, ⟨by show (-9223372036854775808 : Int) ≤ b; omega, by show b ≤ 9223372036854775807; omega⟩, ⟨by show (-9223372036854775808 : Int) ≤ q; omega, by show q ≤ 9223372036854775807; omega⟩, by show d.size ≤ maxLen; unfold maxLen; omega⟩
theorem fresh_ops_ok {o : Int} (ho : o = 0 ∨ o = 1) (kill : Bool) (g seq d : Nat) : ∀ x ∈ freshL o kill g seq d, x.ok := by
  have hb : ∀ x ∈ freshO o g seq d, x.ok := fun x hx => by
    simp only [freshO, List.mem_cons, List.not_mem_nil, or_false] at hx
    rcases hx with rfl | rfl | rfl | rfl | rfl
    · exact op_ok (by decide) ho (by decide) (by decide)
    · exact op_ok (by decide) ho (by decide) (by rw [body_bs]; decide)
    · exact op_ok (by decide) ho (by decide) (by decide)
    · exact op_ok (by decide) ho (by decide) (by rw [body_bs]; decide)
    · exact op_ok (by decide) ho (by decide) (by decide)
  intro x hx
  unfold freshL at hx
  split at hx
  · rcases List.mem_cons.1 hx with rfl | h
    · exact op_ok (by decide) ho (by decide) (by decide)
    · exact hb x h
  · exact hb x hx
theorem plan_ops_ok (f : Fl) (d : Nat) : ∀ x ∈ (planR f d).1, x.ok := by
  cases plan_is f d with
  | none h l => rw [l]; intro x hx; cases hx
  | app i hb hn hs h =>
    rw [h]
    obtain ⟨hle, _, _⟩ := next_all hn
    have hN := slotsN_le (f.bank (bankK f))
    dsimp only
    rw [appL_is _ (by omega)]
    intro x hx
    simp only [List.mem_cons, List.not_mem_nil, or_false] at hx
    rcases hx with rfl | rfl
    · exact op_ok (by decide) hb (by omega) (by rw [body_bs]; decide)
    · exact op_ok (by decide) hb (by omega) (by decide)
  | first o ho hb he h => rw [h]; exact fresh_ops_ok ho _ _ _ _
  | next hb hn hs hg he h => rw [h]; exact fresh_ops_ok (by omega) _ _ _ _
theorem playG_fit (cut : Int) (m : ByteArray) : ∀ (l : List PwOp) (f : Fl) (i : Nat), f.fit → (playG cut m l f i).1.fit
  | [], f, i, h => h
  | o :: l, f, i, h => by
    unfold playG
    split
    · exact tearF_fit h o m
    · split
      · exact playG_fit cut m l _ _ (doF_fit h o)
      · exact h
theorem play_fit {f : Fl} (h : f.fit) (l : List PwOp) (cut : Int) (m : ByteArray) : (playR f l cut m).1.fit := playG_fit cut m l f 0 h
theorem fit_400 {f : Fl} (h : f.ok) (z0 : f.b0.size ≤ 400) (z1 : f.b1.size ≤ 400) : f.fit := ⟨h, by omega, by omega⟩

theorem pickS_seq_lt (f : Fl) : (pickS f).seq < 18446744073709551616 := by
  rcases bankK_cases f with h | h | h
  · rw [pickS_some (Or.inr h)]; exact (lastR_lt _).1
  · rw [pickS_some (Or.inl h)]; exact (lastR_lt _).1
  · rw [pickS_none (by omega)]; decide

def pn0 : Fl := newF 72 5

def pn1 : Fl := (playR pn0 (planR pn0 7).1 (-1) ⟨#[]⟩).1

def pn2 : Fl := (playR pn1 (planR pn1 8).1 (-1) ⟨#[]⟩).1

theorem pn_p0 : (planR pn0 7).2 = 0 ∧ (planR pn0 7).1.length = 5 := ⟨by kernel_rfl, by kernel_rfl⟩
theorem pn_y0 : (playR pn0 (planR pn0 7).1 (-1) ⟨#[]⟩).2 = (5, 0) := by kernel_rfl
theorem pn_p1 : (planR pn1 8).2 = 0 ∧ (planR pn1 8).1.length = 2 := ⟨by kernel_rfl, by kernel_rfl⟩
theorem pn_y1 : (playR pn1 (planR pn1 8).1 (-1) ⟨#[]⟩).2 = (2, 0) := by kernel_rfl
theorem pn_r : pickE pn2 = 0 ∧ pickS pn2 = ⟨0, 1, 2, 8⟩ := ⟨by kernel_rfl, by kernel_rfl⟩
theorem newF_fit (size lim : Int) (hs : size ≤ 140737488351232) : (newF size lim).fit := by
  unfold newF
  split
  · exact ⟨⟨Nat.zero_le _, Nat.zero_le _, ⟨by show (-9223372036854775808 : Int) ≤ 0; decide, by show (0 : Int) ≤ 9223372036854775807; decide⟩, ⟨by show (-9223372036854775808 : Int) ≤ 0; decide, by show (0 : Int) ≤ 9223372036854775807; decide⟩, ⟨by show (-9223372036854775808 : Int) ≤ 0; decide, by show (0 : Int) ≤ 9223372036854775807; decide⟩⟩, Nat.zero_le _, Nat.zero_le _⟩
  · have hz : (blankT size.toNat).size ≤ 140737488351232 := by rw [blankT_size']; omega
    exact ⟨⟨by unfold maxLen; show (blankT size.toNat).size ≤ _; omega, by unfold maxLen; show (blankT size.toNat).size ≤ _; omega, ⟨by show (-9223372036854775808 : Int) ≤ 0; decide, by show (0 : Int) ≤ 9223372036854775807; decide⟩, ⟨by show (-9223372036854775808 : Int) ≤ 0; decide, by show (0 : Int) ≤ 9223372036854775807; decide⟩, ⟨by show (-9223372036854775808 : Int) ≤ lim; omega, by show lim ≤ 9223372036854775807; omega⟩⟩, hz, hz⟩
theorem pn_ok0 : pn0.fit := newF_fit 72 5 (by decide)
theorem pn_ok1 : pn1.fit := play_fit pn_ok0 _ _ _
theorem pn_ok2 : pn2.fit := play_fit pn_ok1 _ _ _
end Go.Proofs.Ythmpjoiifglbjaa

/- Journals fit; what their steps come to, as the statements ask it; plain laws: no statement is proved here. -/
import Derived.Test.YthmpjoiifglbjaaGreatPower
import Derived.Test.YthmpjoiifglbjaaGreatFlashOwn
import Derived.Test.YthmpjoiifglbjaaGreatJourRes
import Derived.KernelRfl
import Derived.IntWalk
namespace Go.Proofs.YthmpjoiifglbjaaGreat
set_option linter.unusedVariables false

theorem fit_of_banks {f g : Fl} (hf : f.fit) (hg : g.ok) (h : ∀ j, (g.bank j).size = (f.bank j).size) : g.fit :=
  ⟨hg, by have k := h 0; exact Nat.le_trans (Nat.le_of_eq k) hf.z0, by have k := h 1; exact Nat.le_trans (Nat.le_of_eq k) hf.z1⟩
theorem setBank_size (f : Fl) (i : Int) (s : ByteArray) (h : s.size = (f.bank i).size) (j : Int) : ((f.setBank i s).bank j).size = (f.bank j).size := by
  unfold Fl.setBank Fl.bank at *
  by_cases hi : i = 0 <;> by_cases hj : j = 0 <;> simp_all
theorem eraseF_fit {f : Fl} (hf : f.fit) (bank : Int) : (eraseF f bank).fit := fit_of_banks hf (eraseF_ok hf.ok bank) (eraseF_bank_size f bank)
theorem doF_fit {f : Fl} (hf : f.fit) (o : PwOp) : (doF f o).fit := by
  unfold doF
  by_cases h1 : o.kind = 1
  · rw [if_pos h1]; exact progF_fit hf _ _ _
  · rw [if_neg h1]
    by_cases h2 : o.kind = 2
    · rw [if_pos h2]; exact eraseF_fit hf _
    · rw [if_neg h2]; exact hf
theorem tearF_fit {f : Fl} (hf : f.fit) (o : PwOp) (m : ByteArray) : (tearF f o m).fit := by
  refine fit_of_banks hf (tearF_ok hf.ok o m) fun j => ?_
  by_cases h : doErr f o = 0
  · rcases (doErr_bank h).2 with h1 | h2
    · rw [tearF_prog h h1]
      exact setBank_size _ _ _ (spliceT_size _ _ _ _ (prog_bounds ((doErr_prog h1).symm.trans h)).2) _
    · rw [tearF_erase h h2, setBank_size _ _ _ (by rw [eraT_size, eraseF_bank_size]), eraseF_bank_size]
  · rw [tearF_err h]
/-- The mask that leaves what an erase did not reach. -/
def unrB (m : UInt8) : UInt8 := if m.toNat % 2 = 1 then 0 else 255
def unrF (m : ByteArray) (i : Nat) : UInt8 := unrB (gd (bl m) i 0)
def unrT (m : ByteArray) (n : Nat) : ByteArray := bs (upto (unrF m) n)
theorem unrT_size (m : ByteArray) (n : Nat) : (unrT m n).size = n := by rw [unrT, bs_size, upto_length]
theorem gd_blank (n i : Nat) (h : i < n) (d : UInt8) : gd (bl (blankT n)) i d = 255 := by
  rw [blankT, bl_bs]; unfold gd; rw [List.getElem?_replicate, if_pos h]; rfl
theorem era_splice (s m : ByteArray) : spliceT (blankT s.size) 0 s (unrT m s.size) = eraT s m := by
  have hz := spliceT_size (blankT s.size) 0 s (unrT m s.size) (by rw [blankT_size']; omega)
  refine bl_ext (by rw [hz, blankT_size', eraT_size]) fun i hi => ?_
  rw [hz, blankT_size'] at hi
  rw [gd_spliceT _ _ _ _ (by rw [blankT_size']; omega), if_pos (by omega), gd_eraT s m i hi, gd_blank _ _ hi, Nat.sub_zero, unrT, bl_bs, gd_upto', if_pos hi, unrF, unrB, eraB]
  rw [gd_in s i 255 hi, gd_in s i 0 hi]
  split
  · apply ext8; intro b hb; simp only [tb, tB_band, tB_bor, tB_bandn _ _ _ hb, tB_255 b hb, tB_zero]
    first | rfl | (cases tB s[i] b <;> rfl)
  · apply ext8; intro b hb; simp only [tb, tB_band, tB_bor, tB_bandn _ _ _ hb, tB_255 b hb]
    cases tB s[i] b <;> rfl
theorem play_cut {m : ByteArray} {l : List PwOp} {f : Fl} {k : Nat} {o : PwOp} (h : l[k]? = some o) : playG (k : Int) m (l.drop k) f k = (tearF f o m, k, doErr f o) := by
  have hk : k < l.length := (List.getElem?_eq_some_iff.1 h).1
  rw [List.drop_eq_getElem_cons hk, show l[k] = o from (List.getElem?_eq_some_iff.1 h).2]
  unfold playG
  rw [if_pos rfl]
/-- A row that is filled place by place. -/
def filled (f : Nat → UInt8) (k n : Nat) : List UInt8 := (List.range n).map fun j => if j < k then f j else 0
theorem filled_length (f : Nat → UInt8) (k n : Nat) : (filled f k n).length = n := by simp [filled]
theorem filled_zero (f : Nat → UInt8) (n : Nat) : filled f 0 n = List.replicate n 0 := by
  apply List.ext_getElem
  · simp [filled]
  · intro i h1 h2; simp [filled]
theorem filled_set (f : Nat → UInt8) (k n : Nat) (h : k < n) : (filled f k n).set k (f k) = filled f (k + 1) n := by
  apply List.ext_getElem
  · simp [filled]
  · intro i h1 h2
    simp only [filled, List.getElem_set, List.getElem_map, List.getElem_range]
    by_cases e : k = i
    · subst e; simp
    · rw [if_neg e]
      by_cases h3 : i < k
      · rw [if_pos h3, if_pos (by omega)]
      · rw [if_neg h3, if_neg (by omega)]
theorem filled_skip (f : Nat → UInt8) (k n : Nat) (h : f k = 0) : filled f k n = filled f (k + 1) n := by
  apply List.ext_getElem
  · simp [filled]
  · intro i h1 h2
    simp only [filled, List.getElem_map, List.getElem_range]
    by_cases h3 : i < k
    · rw [if_pos h3, if_pos (by omega)]
    · rw [if_neg h3]
      by_cases e : k = i
      · subst e; rw [if_pos (by omega), h]
      · rw [if_neg (by omega)]
theorem filled_all (f : Nat → UInt8) (n : Nat) : filled f n n = upto f n := by
  apply List.ext_getElem
  · rw [filled_length, upto_length]
  · intro i h1 h2
    rw [filled_length] at h1
    have := upto_get f n i h1
    rw [List.getElem?_eq_getElem h2] at this
    simp [filled, h1]
    exact (Option.some.inj this).symm
end Go.Proofs.YthmpjoiifglbjaaGreat
namespace Go.Proofs.YthmpjoiifglbjaaGreat
set_option linter.unusedVariables false

theorem op_ok {k b q : Int} {d : ByteArray} (hk : 0 ≤ k ∧ k ≤ 2) (hb : b = 0 ∨ b = 1) (hq : 0 ≤ q ∧ q ≤ 1000) (hd : d.size ≤ 30) : PwOp.ok ⟨k, b, q, d⟩ :=
  ⟨⟨by show (-9223372036854775808 : Int) ≤ k; omega, by show k ≤ 9223372036854775807; omega⟩, ⟨by show (-9223372036854775808 : Int) ≤ b; omega, by show b ≤ 9223372036854775807; omega⟩, ⟨by show (-9223372036854775808 : Int) ≤ q; omega, by show q ≤ 9223372036854775807; omega⟩, by show d.size ≤ maxLen; unfold maxLen; omega⟩
theorem fresh_ops_ok {o : Int} (ho : o = 0 ∨ o = 1) (kill : Bool) (g seq d : Nat) : ∀ x ∈ freshL o kill g seq d, x.ok := by
  have hb : ∀ x ∈ freshO o g seq d, x.ok := fun x hx => by
    simp only [freshO, List.mem_cons, List.not_mem_nil, or_false] at hx
    rcases hx with rfl | rfl | rfl | rfl | rfl
    · exact op_ok (by decide) ho (by decide) (by decide)
    · exact op_ok (by decide) ho (by decide) (by rw [body_bs]; decide)
    · exact op_ok (by decide) ho (by decide) (by decide)
    · exact op_ok (by decide) ho (by decide) (by rw [body_bs]; decide)
    · exact op_ok (by decide) ho (by decide) (by decide)
  intro x hx
  unfold freshL at hx
  split at hx
  · rcases List.mem_cons.1 hx with rfl | h
    · exact op_ok (by decide) ho (by decide) (by decide)
    · exact hb x h
  · exact hb x hx
theorem plan_ops_ok (f : Fl) (d : Nat) : ∀ x ∈ (planR f d).1, x.ok := by
  cases plan_is f d with
  | none h l => rw [l]; intro x hx; cases hx
  | app i hb hn hs h =>
    rw [h]
    obtain ⟨hle, _, _⟩ := next_all hn
    have hN := slotsN_le (f.bank (bankK f))
    dsimp only
    rw [appL_is _ (by omega)]
    intro x hx
    simp only [List.mem_cons, List.not_mem_nil, or_false] at hx
    rcases hx with rfl | rfl
    · exact op_ok (by decide) hb (by omega) (by rw [body_bs]; decide)
    · exact op_ok (by decide) hb (by omega) (by decide)
  | first o ho hb he h => rw [h]; exact fresh_ops_ok ho _ _ _ _
  | next hb hn hs hg he h => rw [h]; exact fresh_ops_ok (by omega) _ _ _ _
theorem playG_fit (cut : Int) (m : ByteArray) : ∀ (l : List PwOp) (f : Fl) (i : Nat), f.fit → (playG cut m l f i).1.fit
  | [], f, i, h => h
  | o :: l, f, i, h => by
    unfold playG
    split
    · exact tearF_fit h o m
    · split
      · exact playG_fit cut m l _ _ (doF_fit h o)
      · exact h
theorem play_fit {f : Fl} (h : f.fit) (l : List PwOp) (cut : Int) (m : ByteArray) : (playR f l cut m).1.fit := playG_fit cut m l f 0 h
theorem fit_400 {f : Fl} (h : f.ok) (z0 : f.b0.size ≤ 400) (z1 : f.b1.size ≤ 400) : f.fit := ⟨h, by omega, by omega⟩

theorem pickS_seq_lt (f : Fl) : (pickS f).seq < 18446744073709551616 := by
  rcases bankK_cases f with h | h | h
  · rw [pickS_some (Or.inr h)]; exact (lastR_lt _).1
  · rw [pickS_some (Or.inl h)]; exact (lastR_lt _).1
  · rw [pickS_none (by omega)]; decide

def pn0 : Fl := newF 72 5

def pn1 : Fl := (playR pn0 (planR pn0 7).1 (-1) ⟨#[]⟩).1

def pn2 : Fl := (playR pn1 (planR pn1 8).1 (-1) ⟨#[]⟩).1

theorem pn_p0 : (planR pn0 7).2 = 0 ∧ (planR pn0 7).1.length = 5 := ⟨by kernel_rfl, by kernel_rfl⟩
theorem pn_y0 : (playR pn0 (planR pn0 7).1 (-1) ⟨#[]⟩).2 = (5, 0) := by kernel_rfl
theorem pn_p1 : (planR pn1 8).2 = 0 ∧ (planR pn1 8).1.length = 2 := ⟨by kernel_rfl, by kernel_rfl⟩
theorem pn_y1 : (playR pn1 (planR pn1 8).1 (-1) ⟨#[]⟩).2 = (2, 0) := by kernel_rfl
theorem pn_r : pickE pn2 = 0 ∧ pickS pn2 = ⟨0, 1, 2, 8⟩ := ⟨by kernel_rfl, by kernel_rfl⟩
theorem newF_fit (size lim : Int) (hs : size ≤ 140737488351232) : (newF size lim).fit := by
  unfold newF
  split
  · exact ⟨⟨Nat.zero_le _, Nat.zero_le _, ⟨by show (-9223372036854775808 : Int) ≤ 0; decide, by show (0 : Int) ≤ 9223372036854775807; decide⟩, ⟨by show (-9223372036854775808 : Int) ≤ 0; decide, by show (0 : Int) ≤ 9223372036854775807; decide⟩, ⟨by show (-9223372036854775808 : Int) ≤ 0; decide, by show (0 : Int) ≤ 9223372036854775807; decide⟩⟩, Nat.zero_le _, Nat.zero_le _⟩
  · have hz : (blankT size.toNat).size ≤ 140737488351232 := by rw [blankT_size']; omega
    exact ⟨⟨by unfold maxLen; show (blankT size.toNat).size ≤ _; omega, by unfold maxLen; show (blankT size.toNat).size ≤ _; omega, ⟨by show (-9223372036854775808 : Int) ≤ 0; decide, by show (0 : Int) ≤ 9223372036854775807; decide⟩, ⟨by show (-9223372036854775808 : Int) ≤ 0; decide, by show (0 : Int) ≤ 9223372036854775807; decide⟩, ⟨by show (-9223372036854775808 : Int) ≤ lim; omega, by show lim ≤ 9223372036854775807; omega⟩⟩, hz, hz⟩
theorem pn_ok0 : pn0.fit := newF_fit 72 5 (by decide)
theorem pn_ok1 : pn1.fit := play_fit pn_ok0 _ _ _
theorem pn_ok2 : pn2.fit := play_fit pn_ok1 _ _ _
end Go.Proofs.YthmpjoiifglbjaaGreat
namespace Go.Proofs.YthmpjoiifglbjaaGreat
set_option linter.unusedVariables false

structure Stp.ok (o : Stp) : Prop where
  nd : o.data < 18446744073709551616
  nc : -9223372036854775808 ≤ o.cut ∧ o.cut ≤ 9223372036854775807
  sm : o.mask.size ≤ maxLen
theorem putJ_fit {f : Fl} (h : f.fit) (s : Stp) : (putJ f s).1.fit := by
  unfold putJ; split
  · exact play_fit h _ _ _
  · exact h
theorem playJ_f (l : Lg) (s : Stp) : (playJ l s).f = (putJ l.f s).1 := by
  by_cases h : (planR l.f s.data).2 = 0
  · cases hk : (putJ l.f s).2.1
    · by_cases hs : pickS (putJ l.f s).1 = pickS l.f ∧ pickE (putJ l.f s).1 = pickE l.f
      · rw [play_same h hk hs]
      · rw [play_new h hk hs]
    · rw [play_acked h hk]
  · rw [play_err h, put_err h]
theorem playJ_fit {l : Lg} (h : l.f.fit) (s : Stp) : (playJ l s).f.fit := by rw [playJ_f]; exact putJ_fit h s
theorem runJ_fit : ∀ (r : List Stp) (l : Lg), l.f.fit → (runJ l r).f.fit
  | [], l, h => h
  | s :: r, l, h => runJ_fit r _ (playJ_fit h s)
def wearF (f : Fl) : Int := Go.RowKit.wrap64 (f.e0 + f.e1)
theorem LI.small {n c : Nat} {l : Lg} (h : LI n c l) (hc : c ≤ 1000) : -9223372036854775808 ≤ l.acked ∧ l.acked < 9223372036854775807 := by have := h.a; omega
/-- What is read of a log. -/
theorem LI.flies {n c : Nat} {l : Lg} (h : LI n c l) (hf : l.flying = true) : pickE l.f = 0 ∧ (pickS l.f).data = l.flight := by
  have h0 := h.p.2 (Or.inr hf)
  exact ⟨h0, by rw [h.q h0, if_pos hf]⟩
theorem LI.rests {n c : Nat} {l : Lg} (h : LI n c l) (hf : l.flying = false) (ha : 0 < l.acked) : pickE l.f = 0 ∧ (pickS l.f).data = l.last := by
  have h0 := h.p.2 (Or.inl ha)
  exact ⟨h0, by rw [h.q h0, if_neg (by rw [hf]; decide)]⟩
theorem LI.blank {n c : Nat} {l : Lg} (h : LI n c l) (hf : l.flying = false) (ha : ¬ 0 < l.acked) : pickE l.f ≠ 0 := fun h0 => by
  rcases h.p.1 h0 with x | x
  · exact ha x
  · rw [hf] at x; cases x
/-- A journal that is never cut, behind i states. -/
def EJ (n most i : Nat) (l : Lg) : Prop := (i = 0 ∧ l = startJ (newF ((24 * n + 24 : Nat) : Int) (most : Int))) ∨ ∃ q r, i = n * q + r + 1 ∧ q < 2 * most ∧ EI n q r most l
theorem mul_lt_of {n q r m : Nat} (hr : r < n) (h : n * q + r < m * n) : q < m := by
  rcases Nat.lt_or_ge q m with h1 | h1
  · exact h1
  · have : m * n ≤ q * n := Nat.mul_le_mul_right n h1
    rw [Nat.mul_comm q n] at this; omega
theorem er_div {n q r : Nat} (hr : r < n) : (n * q + r) / n = q := by
  rw [Nat.mul_add_div (by omega), Nat.div_eq_of_lt hr, Nat.add_zero]
theorem er_step {n most i : Nat} {l : Lg} (hn : 1 ≤ n ∧ n ≤ 12) (hm : most ≤ 1000) (h : EJ n most i l) (hi : i ≤ 1000) {d : Nat} (hd : d < 18446744073709551616) :
    (2 * most * n ≤ i → i ≤ 2 * most * n → playJ l ⟨d, -1, ⟨#[]⟩⟩ = l ∧ l.acked = (2 * most * n : Nat)) ∧
    (i < 2 * most * n → EJ n most (i + 1) (playJ l ⟨d, -1, ⟨#[]⟩⟩) ∧ (playJ l ⟨d, -1, ⟨#[]⟩⟩).acked = (i + 1 : Nat) ∧ (playJ l ⟨d, -1, ⟨#[]⟩⟩).last = d ∧ (playJ l ⟨d, -1, ⟨#[]⟩⟩).f.e0 + (playJ l ⟨d, -1, ⟨#[]⟩⟩).f.e1 = (i / n + 1 : Nat)) := by
  rcases h with ⟨rfl, rfl⟩ | ⟨q, r, rfl, hq, hE⟩
  · obtain ⟨f1, f2⟩ := first_ei hn hm hd ⟨#[]⟩
    refine ⟨fun h1 _ => ?_, fun h1 => ?_⟩
    · have h0 : most = 0 := by
        rcases Nat.eq_zero_or_pos most with h | h
        · exact h
        · have : 0 < 2 * most * n := Nat.mul_pos (by omega) (by omega)
          omega
      refine ⟨f2 h0, ?_⟩
      subst h0
      show (0 : Int) = _
      rw [Nat.mul_zero, Nat.zero_mul]; rfl
    · have h0 : 0 < most := by
        rcases Nat.eq_zero_or_pos most with h | h
        · subst h; rw [Nat.mul_zero, Nat.zero_mul] at h1; omega
        · exact h
      obtain ⟨g1, g2⟩ := f1 h0
      have ha := g1.a
      have hw := g1.wear
      rw [Nat.mul_zero] at ha
      refine ⟨Or.inr ⟨0, 0, by rw [Nat.mul_zero], by omega, g1⟩, by rw [ha], g2, ?_⟩
      rw [hw, Nat.zero_div]; rfl
  · have hr := hE.hr
    have hlt : ∀ {a : Nat}, a < 12 * 2001 → n * a ≤ 12 * a := fun _ => Nat.mul_le_mul_right _ hn.2
    have hq2 : q < 2001 := by omega
    have hnq := hlt (a := q) (by omega)
    by_cases hr1 : r + 1 < n
    · obtain ⟨g1, g2⟩ := hE.app (by omega) hr1 hd ⟨#[]⟩
      have ha := g1.a
      have hw := g1.wear
      refine ⟨fun h1 _ => ?_, fun h1 => ⟨Or.inr ⟨q, r + 1, by omega, hq, g1⟩, by rw [ha]; omega, g2, ?_⟩⟩
      · exfalso
        have : n * q + n ≤ 2 * most * n := by
          have h2 : (q + 1) * n ≤ 2 * most * n := Nat.mul_le_mul_right n (by omega)
          rw [Nat.add_mul, Nat.one_mul, Nat.mul_comm q n] at h2; omega
        omega
      · rw [hw, show n * q + r + 1 = n * q + (r + 1) from by omega, er_div hr1]; omega
    · have hrn : r + 1 = n := by omega
      obtain ⟨g1, g2⟩ := hE.next (by omega) hrn hd ⟨#[]⟩
      refine ⟨fun h1 h2 => ?_, fun h1 => ?_⟩
      · have hlt2 : 2 * most ≤ q + 1 := by
          have h3 : 2 * most * n ≤ (q + 1) * n := by rw [Nat.add_mul, Nat.one_mul, Nat.mul_comm q n]; omega
          exact Nat.le_of_mul_le_mul_right h3 (by omega)
        refine ⟨g2 hlt2, ?_⟩
        rw [hE.a]
        have : n * q + r + 1 = 2 * most * n := by omega
        rw [this]
      · have hq3 : q + 1 < 2 * most := by
          refine mul_lt_of (n := n) (r := 0) (by omega) ?_
          rw [Nat.mul_add]; omega
        obtain ⟨k1, k2⟩ := g1 hq3
        have ha := k1.a
        have hw := k1.wear
        have hm1 : n * (q + 1) = n * q + r + 1 := by rw [Nat.mul_add]; omega
        refine ⟨Or.inr ⟨q + 1, 0, by omega, hq3, k1⟩, by rw [ha, hm1], k2, ?_⟩
        rw [hw, ← hm1, show n * (q + 1) = n * (q + 1) + 0 from rfl, er_div (by omega)]; omega
theorem er_start {n most : Nat} : EJ n most 0 (startJ (newF ((24 * n + 24 : Nat) : Int) (most : Int))) := Or.inl ⟨rfl, rfl⟩
/-- Numbers rise. -/
theorem num_step {n c : Nat} {l : Lg} (h : LI n c l) {s : Stp} (hd : s.data < 18446744073709551616) :
    seqN l.f ≤ seqN (playJ l s).f ∧ seqN (playJ l s).f ≤ c + 1 ∧ (pickE (playJ l s).f ≠ 0 → seqN l.f = seqN (playJ l s).f) ∧ (l.acked < (playJ l s).acked → pickE (playJ l s).f = 0 ∧ seqN (playJ l s).f = seqN l.f + 1) := by
  obtain ⟨h1, h2, h3⟩ := play_seq h hd
  refine ⟨h1, (play_li h hd).1.j.seq, fun h0 => ?_, h3⟩
  have hx : pickE l.f ≠ 0 := fun x => h0 (h2 x)
  unfold seqN; rw [if_neg hx, if_neg h0]
/-- Who is worn out stays so. -/
theorem worn_stays {l : Lg} {d : Nat} (h : (planR l.f d).2 ≠ 0) (s : Stp) : playJ l s = l := play_err (by rw [(plan_alike l.f s.data d).1]; exact h)
theorem mk168 {M K : Nat} (h : M < 8) (k : K ≤ 12) : 2 * M * K ≤ 168 := by
  have h2 : 2 * M ≤ 14 := by omega
  exact Nat.mul_le_mul h2 k
theorem er_nums {M K N2 : Nat} {mm kk : Int} (hM : M < 8) (hK : K ≤ 12) (mw : (M : Int) = mm) (kw : (K : Int) = kk) (hN : 2 * M * K = N2) :
    IntKind.i64.wrap (2 * mm) = 2 * mm ∧ IntKind.i64.wrap (2 * mm * kk) = (N2 : Int) := by
  have h2 := mk168 hM hK
  rw [hN] at h2
  subst mw kw
  refine ⟨Go.IntWalk.i64_in _ (by omega), ?_⟩
  have e : 2 * (M : Int) * (K : Int) = (N2 : Int) := by rw [← hN]; simp
  rw [e]; exact Go.IntWalk.i64_in _ (by omega)

def jn0 : List Stp := [⟨7, -1, ⟨#[]⟩⟩, ⟨8, 1, ⟨#[255, 255]⟩⟩]

def jn1 : List Stp := [⟨7, -1, ⟨#[]⟩⟩, ⟨8, 1, ⟨#[]⟩⟩, ⟨9, 0, ⟨#[64]⟩⟩]

def jl0 : Lg := runJ (startJ pn0) jn0

def jl1 : Lg := runJ (startJ pn0) jn1

theorem jl0_is : jl0.acked = 1 ∧ jl0.last = 7 ∧ jl0.flying = true ∧ jl0.flight = 8 ∧ jl0.f.e0 = 1 ∧ jl0.f.e1 = 0 := ⟨by kernel_rfl, by kernel_rfl, by kernel_rfl, by kernel_rfl, by kernel_rfl, by kernel_rfl⟩
theorem jl1_is : jl1.flying = false := by kernel_rfl
theorem jl_read : (pickS jl0.f).data = 8 ∧ pickE jl0.f = 0 ∧ (pickS jl1.f).data = 7 ∧ pickE jl1.f = 0 ∧ pickE pn0 = 10 := ⟨by kernel_rfl, by kernel_rfl, by kernel_rfl, by kernel_rfl, by kernel_rfl⟩
theorem jl_fit : jl0.f.fit ∧ jl1.f.fit := ⟨runJ_fit _ _ pn_ok0, runJ_fit _ _ pn_ok0⟩
theorem jn_ok : (∀ s ∈ jn0, s.ok) ∧ ∀ s ∈ jn1, s.ok := by
  have k : ∀ (d : Nat) (c : Int) (m : ByteArray), d < 10 → -1 ≤ c ∧ c ≤ 1 → m.size ≤ 2 → Stp.ok ⟨d, c, m⟩ := fun d c m h1 h2 h3 => ⟨by show d < _; omega, by show _ ≤ c ∧ c ≤ _; omega, by show m.size ≤ maxLen; unfold maxLen; omega⟩
  constructor
  · intro s hs
    simp only [jn0, List.mem_cons, List.not_mem_nil, or_false] at hs
    rcases hs with rfl | rfl
    · exact k _ _ _ (by decide) (by decide) (by decide)
    · exact k _ _ _ (by decide) (by decide) (by decide)
  · intro s hs
    simp only [jn1, List.mem_cons, List.not_mem_nil, or_false] at hs
    rcases hs with rfl | rfl | rfl
    · exact k _ _ _ (by decide) (by decide) (by decide)
    · exact k _ _ _ (by decide) (by decide) (by decide)
    · exact k _ _ _ (by decide) (by decide) (by decide)
theorem playJ_acked (l : Lg) (s : Stp) : l.acked ≤ (playJ l s).acked ∧ (playJ l s).acked ≤ l.acked + 1 := by
  unfold playJ; split
  · split
    · exact ⟨by show l.acked ≤ l.acked + 1; omega, by show l.acked + 1 ≤ _; omega⟩
    · split <;> exact ⟨Int.le_refl _, by show l.acked ≤ _; omega⟩
  · exact ⟨Int.le_refl _, by omega⟩
theorem runJ_acked : ∀ (r : List Stp) (l : Lg), l.acked ≤ (runJ l r).acked ∧ (runJ l r).acked ≤ l.acked + (r.length : Int)
  | [], l => ⟨Int.le_refl _, by show l.acked ≤ l.acked + ((0 : Nat) : Int); omega⟩
  | s :: r, l => by
    have h1 := runJ_acked r (playJ l s)
    have h2 := playJ_acked l s
    show l.acked ≤ (runJ (playJ l s) r).acked ∧ (runJ (playJ l s) r).acked ≤ l.acked + ((r.length + 1 : Nat) : Int)
    omega
theorem runJ_take {l : List Stp} {j : Nat} {o : Stp} (h : l[j]? = some o) (L : Lg) : runJ L (l.take (j + 1)) = playJ (runJ L (l.take j)) o := by
  rw [List.take_add_one, h]; exact runJ_snoc _ _ _
end Go.Proofs.YthmpjoiifglbjaaGreat

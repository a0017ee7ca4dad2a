/- What plans are, and what is read behind them, on plain data; plain laws: no statement is proved here. -/
import Derived.Test.YtejhbamlnkhfcaaPlanSteps
namespace Go.Proofs.Ytejhbamlnkhfcaa
set_option linter.unusedVariables false

/-- The ops of an append into slot (a number of place). -/
def appL (k slot : Int) (seq data : Nat) : List PwOp := [⟨1, k, atF slot, bs (bodyL ⟨2, seq, data⟩)⟩, ⟨1, k, markF slot, bs markL⟩]
def goodH (f : Fl) (k : Int) : Bool := stateF (f.bank k) 0 == 2
def topN : Nat := 18446744073709551615
def planR (f : Fl) (d : Nat) : List PwOp × Int :=
  if evenF f = false then ([], 1)
  else if bankK f < 0 then
    (if f.e0 < f.lim then (freshL 0 (goodH f 0) 1 1 d, 0) else if f.e1 < f.lim then (freshL 1 (goodH f 1) 1 1 d, 0) else ([], 4))
  else if (pickS f).seq = topN then ([], 11)
  else if 0 < nextF (f.bank (bankK f)) then (appL (bankK f) (nextF (f.bank (bankK f)) : Int) ((pickS f).seq + 1) d, 0)
  else if (pickS f).gen = topN then ([], 11)
  else if f.lim ≤ f.erases (otherN (bankK f)) then ([], 4)
  else (freshL (otherN (bankK f)) (goodH f (otherN (bankK f))) ((pickS f).gen + 1) ((pickS f).seq + 1) d, 0)

theorem appL_is (k : Int) {i : Nat} (h : i < 12) (seq data : Nat) : appL k ((i + 1 : Nat) : Int) seq data = [⟨1, k, 24 * ((i : Int) + 1), bs (bodyL ⟨2, seq, data⟩)⟩, ⟨1, k, 24 * ((i : Int) + 1) + 22, bs markL⟩] := by
  unfold appL
  rw [atF_in (by omega), markF_in (by omega), show ((i + 1 : Nat) : Int) = (i : Int) + 1 from by omega]
theorem decR_lt (l : List UInt8) : (decR l).seq < 18446744073709551616 ∧ (decR l).data < 18446744073709551616 := by
  by_cases h : decE l = 0
  · have := (enc_decR h).2.2; exact ⟨this.ns, this.nd⟩
  · unfold decR; rw [if_neg h]; exact ⟨by decide, by decide⟩
theorem lastR_lt (s : ByteArray) : (lastR s).seq < 18446744073709551616 ∧ (lastR s).data < 18446744073709551616 := by
  unfold lastR
  cases h : lastG s (slotsN s) with
  | none => exact ⟨by decide, by decide⟩
  | some b =>
    obtain ⟨⟨j, _, _, hj⟩, _⟩ := lastG_some s _ b h
    show b.seq < _ ∧ b.data < _
    rw [← hj]; exact decR_lt _
theorem genN_lt (s : ByteArray) : genN s < 18446744073709551616 := by
  unfold genN; split
  · exact (decR_lt _).1
  · decide
theorem other_is {k : Int} (hk : k = 0 ∨ k = 1) : otherN k = 1 - k := by rcases hk with rfl | rfl <;> rfl
theorem evenF_parts {f : Fl} (h : evenF f = true) : slotsF f.b0.size ≠ 0 ∧ f.b0.size = f.b1.size := by
  unfold evenF at h; simpa using h
theorem even_bank {f : Fl} (h : evenF f = true) {k : Int} (hk : k = 0 ∨ k = 1) : slotsF (f.bank k).size ≠ 0 ∧ (f.bank k).size = f.b0.size := by
  obtain ⟨h1, h2⟩ := evenF_parts h
  rcases hk with rfl | rfl
  · exact ⟨h1, rfl⟩
  · exact ⟨by show slotsF f.b1.size ≠ 0; rw [← h2]; exact h1, h2.symm⟩
theorem upd_even {f : Fl} (h : evenF f = true) {k : Int} (hk : k = 0 ∨ k = 1) {u : ByteArray} (hu : u.size = (f.bank k).size) (e : Int) : evenF (upd f k u e) = true := by
  obtain ⟨h1, h2⟩ := evenF_parts h
  have hz := (even_bank h hk).2
  unfold evenF
  rcases hk with rfl | rfl
  · show (decide (slotsF u.size ≠ 0) && decide (u.size = f.b1.size)) = true
    rw [hu, hz, ← h2]; simp [h1]
  · show (decide (slotsF f.b0.size ≠ 0) && decide (f.b0.size = u.size)) = true
    rw [hu, hz]; simp [h1]
/-- Which bank counts depends on what each of them says alone. -/
theorem bankK_same {f g : Fl} (h : ∀ k : Int, k = 0 ∨ k = 1 → soundB (g.bank k) = soundB (f.bank k) ∧ genN (g.bank k) = genN (f.bank k)) : bankK g = bankK f := by
  have h0 := h 0 (Or.inl rfl)
  have h1 := h 1 (Or.inr rfl)
  have e0 : ∀ f : Fl, f.bank 0 = f.b0 := fun _ => rfl
  have e1 : ∀ f : Fl, f.bank 1 = f.b1 := fun _ => rfl
  rw [e0, e0] at h0; rw [e1, e1] at h1
  unfold bankK bankG
  rw [h0.1, h0.2, h1.1, h1.2]
theorem two_banks {k : Int} (hk : k = 0 ∨ k = 1) {P : Int → Prop} (h1 : P k) (h2 : P (1 - k)) : ∀ j : Int, j = 0 ∨ j = 1 → P j := fun j hj => by
  by_cases e : j = k
  · rw [e]; exact h1
  · rw [show j = 1 - k from by omega]; exact h2

/-- What a fresh bank says. -/
theorem st_head {g : Nat} (hg : g < 18446744073709551616) : stOf (encL ⟨1, g, 0⟩) 0 = 2 ∧ decR (encL ⟨1, g, 0⟩) = ⟨1, g, 0⟩ := by
  have kr : Rec.known ⟨1, g, 0⟩ := ⟨by show (1 : Int) ≤ 1; omega, by show (1 : Int) ≤ 3; omega⟩
  have ok : Rec.ok ⟨1, g, 0⟩ := ⟨⟨by show (-9223372036854775808 : Int) ≤ 1; omega, by show (1 : Int) ≤ 9223372036854775807; omega⟩, hg, by show 0 < 18446744073709551616; decide⟩
  have h0 : decE (encL ⟨1, g, 0⟩) = 0 := (dec_body kr (m := markL) rfl).trans (if_pos rfl)
  have h1 := decR_body ok kr
  refine ⟨?_, h1⟩
  unfold stOf
  rw [h0, if_neg (by decide), if_pos ⟨rfl, by rw [h1]; exact ⟨fun _ => rfl, fun _ => rfl⟩⟩]
theorem rec_ok (k : Int) (h : 1 ≤ k ∧ k ≤ 3) {seq data : Nat} (hs : seq < 18446744073709551616) (hd : data < 18446744073709551616) : Rec.ok ⟨k, seq, data⟩ :=
  ⟨⟨by show (-9223372036854775808 : Int) ≤ k; omega, by show k ≤ 9223372036854775807; omega⟩, hs, hd⟩
theorem fresh_says {z g seq data : Nat} (hz : slotsF z ≠ 0) (hg : g < 18446744073709551616) (hs : seq < 18446744073709551616) (hd : data < 18446744073709551616) :
    soundB (freshB z g seq data) = true ∧ genN (freshB z g seq data) = g ∧ lastR (freshB z g seq data) = ⟨3, seq, data⟩ ∧ (freshB z g seq data).size = z ∧
    nextF (freshB z g seq data) = (if slotsF z = 1 then 0 else 2) := by
  have hsz := slots_size hz
  have f1 : 24 * 1 + 24 ≤ (blankT z).size := by rw [blankT_len]; omega
  have f0 : ∀ j : Nat, (j : Int) ≤ slotsF z → 24 * j + 24 ≤ z := fun j hj => by omega
  have e24 : ∀ r, (bs (encL r)).size = 24 := fun r => by rw [bs_size, encL_length]
  have q1 := putT_size (t := bs (encL ⟨3, seq, data⟩)) f1 (e24 _)
  rw [blankT_len] at q1
  have g0 : 24 * 0 + 24 ≤ (putT (blankT z) 1 (bs (encL ⟨3, seq, data⟩))).size := by omega
  have q2 := putT_size (t := bs (encL ⟨1, g, 0⟩)) g0 (e24 _)
  have hsize : (freshB z g seq data).size = z := by unfold freshB; rw [q2, q1]
  have l0 : slL (freshB z g seq data) 0 = encL ⟨1, g, 0⟩ := by unfold freshB; rw [slL_put g0 (e24 _), bl_bs]
  have l1 : slL (freshB z g seq data) 1 = encL ⟨3, seq, data⟩ := by unfold freshB; rw [slL_put_ne g0 (e24 _) (by decide), slL_put f1 (e24 _), bl_bs]
  have lj : ∀ j : Nat, 2 ≤ j → (j : Int) ≤ slotsF z → slL (freshB z g seq data) j = List.replicate 24 255 := fun j h2 hj => by
    unfold freshB; rw [slL_put_ne g0 (e24 _) (by omega), slL_put_ne f1 (e24 _) (by omega)]; exact slL_blank (f0 j hj)
  generalize freshB z g seq data = v at *
  have hzv : slotsF v.size ≠ 0 := by rw [hsize]; exact hz
  have hle : slotsF v.size = slotsF z := by rw [hsize]
  have hN : slotsN v = (slotsF z).toNat := by unfold slotsN; rw [hle]
  have s0 : stateF v 0 = 2 := by
    have := state_slL hzv (k := 0) (by omega)
    rw [show stateF v 0 = stateF v ((0 : Nat) : Int) from rfl, this, l0]; exact (st_head hg).1
  have d0 : decR (bl (slotT v 0)) = ⟨1, g, 0⟩ := by
    have := slotT_slL hzv (k := 0) (by omega)
    rw [show slotT v 0 = slotT v ((0 : Nat) : Int) from rfl, this, l0]; exact (st_head hg).2
  have ok3 := rec_ok 3 ⟨by decide, by decide⟩ hs hd
  have s1 : stateF v (((0 : Nat) : Int) + 1) = 2 := by
    have := state_slL hzv (k := 1) (by omega)
    rw [show ((0 : Nat) : Int) + 1 = ((1 : Nat) : Int) from rfl, this, l1]; exact st_enc ok3 ⟨by show (2 : Int) ≤ 3; omega, by show (3 : Int) ≤ 3; omega⟩ (by decide)
  have d1 : recF v (((0 : Nat) : Int) + 1) = ⟨3, seq, data⟩ := by
    have := slotT_slL hzv (k := 1) (by omega)
    rw [recF, show ((0 : Nat) : Int) + 1 = ((1 : Nat) : Int) from rfl, this, l1]; exact decR_body ok3 ⟨by show (1 : Int) ≤ 3; omega, by show (3 : Int) ≤ 3; omega⟩
  have sb : ∀ j : Nat, 1 ≤ j → j < slotsN v → stateF v ((j : Int) + 1) = 0 := fun j h1 h2 => by
    have hj : ((j + 1 : Nat) : Int) ≤ slotsF v.size := by omega
    have := state_slL hzv hj
    rw [show (j : Int) + 1 = ((j + 1 : Nat) : Int) from by omega, this, lj (j + 1) (by omega) (by omega)]
    unfold stOf; rw [dec_blank24, if_pos rfl]
  obtain ⟨b1, b2, _⟩ := scan_blank (s := v) (k := 1) (n := slotsN v) (by omega) sb
  have hl : lastG v 1 = some ⟨3, seq, data⟩ := by
    rw [lastG, s1, d1, if_pos ⟨rfl, fun b hb => by cases hb⟩]
  rw [hl] at b1
  have hnx : nextG v 1 = 2 := by rw [nextG, s1, if_pos (by decide)]
  refine ⟨sound_mk (gen_state.2 s0) (by unfold lastE; rw [b1]; rfl), by unfold genN; rw [if_pos s0, d0], by unfold lastR; rw [b1]; rfl, hsize, ?_⟩
  unfold nextF
  rw [b2, hnx, hN]
  by_cases e : slotsF z = 1
  · rw [if_pos (by omega), if_pos e]
  · rw [if_neg (by omega), if_neg e]
/-- An append: what is read behind it. -/
theorem append_step {f : Fl} {i : Nat} {d : Nat} (hb : bankK f = 0 ∨ bankK f = 1) (hn : nextF (f.bank (bankK f)) = i + 1) (hs : (pickS f).seq ≠ topN) (hd : d < 18446744073709551616) (cut : Int) (m : ByteArray) :
    ∃ (t : ByteArray), t.size = 24 ∧ playR f (appL (bankK f) ((i + 1 : Nat) : Int) ((pickS f).seq + 1) d) cut m = (upd f (bankK f) (putT (f.bank (bankK f)) (i + 1) t) (f.erases (bankK f)), (if 0 ≤ cut ∧ cut < 2 then cut.toNat else 2), 0) ∧
      (t = bs (encL ⟨2, (pickS f).seq + 1, d⟩) ∨ stOf (bl t) ((i : Int) + 1) ≠ 2) ∧ (¬ (0 ≤ cut ∧ cut < 2) → t = bs (encL ⟨2, (pickS f).seq + 1, d⟩)) ∧
      bankK (upd f (bankK f) (putT (f.bank (bankK f)) (i + 1) t) (f.erases (bankK f))) = bankK f ∧
      pickS (upd f (bankK f) (putT (f.bank (bankK f)) (i + 1) t) (f.erases (bankK f))) = (if t = bs (encL ⟨2, (pickS f).seq + 1, d⟩) then ⟨bankK f, (pickS f).gen, (pickS f).seq + 1, d⟩ else pickS f) ∧
      soundB (putT (f.bank (bankK f)) (i + 1) t) = true ∧ (putT (f.bank (bankK f)) (i + 1) t).size = (f.bank (bankK f)).size := by
  have hps := pickS_some hb
  have hsnd := (bankK_sound hb).1
  have hseq : (pickS f).seq = (lastR (f.bank (bankK f))).seq := by rw [hps]
  have hlt := (lastR_lt (f.bank (bankK f))).1
  have hsl : (pickS f).seq + 1 < 18446744073709551616 := by unfold topN at hs; omega
  have ok := rec_ok 2 ⟨by decide, by decide⟩ hsl hd
  have kr : (2 : Int) ≤ (Rec.mk 2 ((pickS f).seq + 1) d).kind ∧ (Rec.mk 2 ((pickS f).seq + 1) d).kind ≤ 3 := ⟨by show (2 : Int) ≤ 2; omega, by show (2 : Int) ≤ 3; omega⟩
  obtain ⟨hle, _, _⟩ := next_all hn
  have hN := slotsN_le (f.bank (bankK f))
  have hNe := slotsN_eq (f.bank (bankK f))
  have hsz := slots_size (sound_slots hsnd)
  obtain ⟨t, ht, hp, hc, hw⟩ := append_play hb hn ⟨2, (pickS f).seq + 1, d⟩ ok kr cut m
  obtain ⟨r1, r2, r3, r4⟩ := read_put hsnd hn ht ok kr (by show _ ≤ (pickS f).seq + 1; omega) hc
  have hbk : bankK (upd f (bankK f) (putT (f.bank (bankK f)) (i + 1) t) (f.erases (bankK f))) = bankK f := by
    refine bankK_same (two_banks hb ?_ ?_)
    · rw [upd_bank, r1, r2, hsnd]; exact ⟨rfl, rfl⟩
    · rw [(upd_other f hb _ _).1]; exact ⟨rfl, rfl⟩
  refine ⟨t, ht, by rw [appL_is _ (by omega)]; exact hp, hc, hw, hbk, ?_, r1, putT_size (by omega) ht⟩
  rw [pickS_some (by rw [hbk]; exact hb), hbk, upd_bank, r2, r3, hps]
  by_cases he : t = bs (encL ⟨2, (lastR (f.bank (bankK f))).seq + 1, d⟩)
  · rw [if_pos he, if_pos he]
  · rw [if_neg he, if_neg he]
/-- What is read when the bank o is fresh, of a greater generation than the other one has. -/
theorem fresh_pick {f : Fl} {o : Int} (ho : o = 0 ∨ o = 1) {g seq d : Nat} (e : Int) (hz : slotsF (f.bank o).size ≠ 0) (hg : g < 18446744073709551616) (hs : seq < 18446744073709551616) (hd : d < 18446744073709551616)
    (hlt : soundB (f.bank (1 - o)) = true → genN (f.bank (1 - o)) < g) :
    bankK (upd f o (freshB (f.bank o).size g seq d) e) = o ∧ pickS (upd f o (freshB (f.bank o).size g seq d) e) = ⟨o, g, seq, d⟩ := by
  obtain ⟨h1, h2, h3, h4, _⟩ := fresh_says hz hg hs hd
  have hb : bankK (upd f o (freshB (f.bank o).size g seq d) e) = o := bankK_is ho (by rw [upd_bank]; exact h1) (by rw [upd_bank, (upd_other f ho _ _).1, h2]; exact hlt)
  refine ⟨hb, ?_⟩
  rw [pickS_some (by rw [hb]; exact ho), hb, upd_bank, h2, h3]
/-- What is read when the other bank is not sound, or the elder one. -/
theorem other_pick {f : Fl} {v : ByteArray} {e : Int} (hb : bankK f = 0 ∨ bankK f = 1) (hlt : soundB v = true → genN v < genN (f.bank (bankK f))) :
    bankK (upd f (1 - bankK f) v e) = bankK f ∧ pickS (upd f (1 - bankK f) v e) = pickS f := by
  have ho : 1 - bankK f = 0 ∨ 1 - bankK f = 1 := by omega
  have hu := (upd_other f ho v e).1
  rw [show 1 - (1 - bankK f) = bankK f from by omega] at hu
  have hk : bankK (upd f (1 - bankK f) v e) = bankK f := bankK_is hb (by rw [hu]; exact (bankK_sound hb).1) (by rw [hu, upd_bank]; exact hlt)
  refine ⟨hk, ?_⟩
  rw [pickS_some (by rw [hk]; exact hb), pickS_some hb, hk, hu]
theorem gen_pick {f : Fl} (hb : bankK f = 0 ∨ bankK f = 1) : (pickS f).gen = genN (f.bank (bankK f)) := by rw [pickS_some hb]
/-- The kinds of plans. -/
inductive PlanIs (f : Fl) (d : Nat) : Prop
  | none (h : (planR f d).2 ≠ 0) (l : (planR f d).1 = [])
  | app (i : Nat) (hb : bankK f = 0 ∨ bankK f = 1) (hn : nextF (f.bank (bankK f)) = i + 1) (hs : (pickS f).seq ≠ topN) (h : planR f d = (appL (bankK f) ((i + 1 : Nat) : Int) ((pickS f).seq + 1) d, 0))
  | first (o : Int) (ho : o = 0 ∨ o = 1) (hb : bankK f < 0) (he : f.erases o < f.lim) (h : planR f d = (freshL o (goodH f o) 1 1 d, 0))
  | next (hb : bankK f = 0 ∨ bankK f = 1) (hn : nextF (f.bank (bankK f)) = 0) (hs : (pickS f).seq ≠ topN) (hg : (pickS f).gen ≠ topN) (he : f.erases (1 - bankK f) < f.lim) (h : planR f d = (freshL (1 - bankK f) (goodH f (1 - bankK f)) ((pickS f).gen + 1) ((pickS f).seq + 1) d, 0))
theorem plan_is (f : Fl) (d : Nat) : PlanIs f d := by
  by_cases h1 : evenF f = false
  · have e : planR f d = ([], 1) := if_pos h1
    exact .none (by rw [e]; decide) (by rw [e])
  by_cases h2 : bankK f < 0
  · by_cases h3 : f.e0 < f.lim
    · exact .first 0 (Or.inl rfl) h2 h3 (by unfold planR; rw [if_neg h1, if_pos h2, if_pos h3])
    · by_cases h4 : f.e1 < f.lim
      · exact .first 1 (Or.inr rfl) h2 h4 (by unfold planR; rw [if_neg h1, if_pos h2, if_neg h3, if_pos h4])
      · have e : planR f d = ([], 4) := by unfold planR; rw [if_neg h1, if_pos h2, if_neg h3, if_neg h4]
        exact .none (by rw [e]; decide) (by rw [e])
  have hb : bankK f = 0 ∨ bankK f = 1 := by have := bankK_cases f; omega
  by_cases h3 : (pickS f).seq = topN
  · have e : planR f d = ([], 11) := by unfold planR; rw [if_neg h1, if_neg h2, if_pos h3]
    exact .none (by rw [e]; decide) (by rw [e])
  by_cases h4 : 0 < nextF (f.bank (bankK f))
  · obtain ⟨i, hi⟩ : ∃ i, nextF (f.bank (bankK f)) = i + 1 := ⟨nextF (f.bank (bankK f)) - 1, by omega⟩
    exact .app i hb hi h3 (by unfold planR; rw [if_neg h1, if_neg h2, if_neg h3, if_pos h4, hi])
  by_cases h5 : (pickS f).gen = topN
  · have e : planR f d = ([], 11) := by unfold planR; rw [if_neg h1, if_neg h2, if_neg h3, if_neg h4, if_pos h5]
    exact .none (by rw [e]; decide) (by rw [e])
  have ho := other_is hb
  by_cases h6 : f.lim ≤ f.erases (otherN (bankK f))
  · have e : planR f d = ([], 4) := by unfold planR; rw [if_neg h1, if_neg h2, if_neg h3, if_neg h4, if_neg h5, if_pos h6]
    exact .none (by rw [e]; decide) (by rw [e])
  · exact .next hb (by omega) h3 h5 (by rw [← ho]; omega) (by unfold planR; rw [if_neg h1, if_neg h2, if_neg h3, if_neg h4, if_neg h5, if_neg h6, ho])
theorem plan_even {f : Fl} {d : Nat} (h : (planR f d).2 = 0) : evenF f = true := by
  cases h1 : evenF f
  · unfold planR at h; rw [if_pos h1] at h; exact absurd h (by decide)
  · rfl
/-- The next number, of what is read. -/
def wantN (f : Fl) : Nat := if pickE f = 0 then (pickS f).seq + 1 else 1
theorem wantN_some {f : Fl} (hb : bankK f = 0 ∨ bankK f = 1) : wantN f = (pickS f).seq + 1 := if_pos (pickE_zero.2 hb)
theorem wantN_none {f : Fl} (hb : bankK f < 0) : wantN f = 1 := if_neg (fun h => by have := pickE_zero.1 h; omega)
theorem bank48 {f : Fl} {d : Nat} (h : (planR f d).2 = 0) {o : Int} (ho : o = 0 ∨ o = 1) : slotsF (f.bank o).size ≠ 0 ∧ 48 ≤ (f.bank o).size := by
  have h1 := (even_bank (plan_even h) ho).1
  exact ⟨h1, by have := slots_size h1; omega⟩
/-- When all of a plan is done its state is read, under the next number. -/
theorem plan_done {f : Fl} {d : Nat} (hd : d < 18446744073709551616) (h : (planR f d).2 = 0) {cut : Int} (hc : cut < 0 ∨ ((planR f d).1.length : Int) ≤ cut) (m : ByteArray) :
    ∃ g, playR f (planR f d).1 cut m = (g, (planR f d).1.length, 0) ∧ pickE g = 0 ∧ (pickS g).data = d ∧ (pickS g).seq = wantN f := by
  cases plan_is f d with
  | none h1 _ => exact absurd h h1
  | app i hb hn hs he =>
    obtain ⟨t, ht, hp, hc1, hw, hbk, hps, _⟩ := append_step hb hn hs hd cut m
    rw [he] at hc ⊢
    dsimp only at hc
    have hc2 : ¬ (0 ≤ cut ∧ cut < 2) := by have : ((appL (bankK f) ((i + 1 : Nat) : Int) ((pickS f).seq + 1) d).length : Int) = 2 := rfl; omega
    rw [if_neg hc2] at hp
    rw [if_pos (hw hc2)] at hps
    exact ⟨_, hp, pickE_zero.2 (by rw [hbk]; exact hb), by rw [hps], by rw [hps, wantN_some hb]⟩
  | first o ho hb hl he =>
    obtain ⟨hz, h48⟩ := bank48 h ho
    obtain ⟨v, e, hp, hv, hee, hw, _⟩ := fresh_play f ho (goodH f o) 1 1 d h48 hl cut m
    rw [he] at hc ⊢
    dsimp only at hc
    have hc2 : ¬ (0 ≤ cut ∧ cut < ((freshL o (goodH f o) 1 1 d).length : Int)) := by omega
    obtain ⟨rfl, rfl⟩ := hw hc2
    rw [if_neg hc2] at hp
    have hns := bankG_none.1 (show bankG f.b0 f.b1 < 0 from hb)
    obtain ⟨q1, q2⟩ := fresh_pick (f := f) ho (g := 1) (seq := 1) (d := d) (f.erases o + 1) hz (by decide) (by decide) hd (fun x => by
      rcases ho with rfl | rfl
      · exact absurd (hns.2.symm.trans x) (by decide)
      · exact absurd (hns.1.symm.trans x) (by decide))
    exact ⟨_, hp, pickE_zero.2 (by rw [q1]; exact ho), by rw [q2], by rw [q2, wantN_none hb]⟩
  | next hb hn hs hg hl he =>
    have ho : 1 - bankK f = 0 ∨ 1 - bankK f = 1 := by omega
    obtain ⟨hz, h48⟩ := bank48 h ho
    obtain ⟨v, e, hp, hv, hee, hw, _⟩ := fresh_play f ho (goodH f (1 - bankK f)) ((pickS f).gen + 1) ((pickS f).seq + 1) d h48 hl cut m
    rw [he] at hc ⊢
    dsimp only at hc
    have hc2 : ¬ (0 ≤ cut ∧ cut < ((freshL (1 - bankK f) (goodH f (1 - bankK f)) ((pickS f).gen + 1) ((pickS f).seq + 1) d).length : Int)) := by omega
    obtain ⟨rfl, rfl⟩ := hw hc2
    rw [if_neg hc2] at hp
    have g1 := gen_pick hb
    have g2 := genN_lt (f.bank (bankK f))
    have g3 := (lastR_lt (f.bank (bankK f))).1
    have g4 : (pickS f).seq = (lastR (f.bank (bankK f))).seq := by rw [pickS_some hb]
    unfold topN at hs hg
    obtain ⟨q1, q2⟩ := fresh_pick (f := f) ho (g := (pickS f).gen + 1) (seq := (pickS f).seq + 1) (d := d) (f.erases (1 - bankK f) + 1) hz (by omega) (by omega) hd (fun x => by rw [show 1 - (1 - bankK f) = bankK f from by omega, ← g1]; omega)
    exact ⟨_, hp, pickE_zero.2 (by rw [q1]; exact ho), by rw [q2], by rw [q2, wantN_some hb]⟩
/-- An append that is cut anywhere. -/
theorem plan_cuts {f : Fl} {d : Nat} (hd : d < 18446744073709551616) (h : (planR f d).2 = 0) (hl : (planR f d).1.length = 2) (cut : Int) (m : ByteArray) :
    pickE f = 0 ∧ ∃ g n, playR f (planR f d).1 cut m = (g, n, 0) ∧ pickE g = 0 ∧ (pickS g = pickS f ∨ pickS g = ⟨(pickS f).bank, (pickS f).gen, (pickS f).seq + 1, d⟩) := by
  cases plan_is f d with
  | none h1 _ => exact absurd h h1
  | app i hb hn hs he =>
    obtain ⟨t, ht, hp, hc1, hw, hbk, hps, _⟩ := append_step hb hn hs hd cut m
    rw [he]
    refine ⟨pickE_zero.2 hb, _, _, hp, pickE_zero.2 (by rw [hbk]; exact hb), ?_⟩
    by_cases ht2 : t = bs (encL ⟨2, (pickS f).seq + 1, d⟩)
    · right; rw [hps, if_pos ht2]
      have : (pickS f).bank = bankK f := by rw [pickS_some hb]
      rw [this]
    · left; rw [hps, if_neg ht2]
  | first o ho hb hx he => rw [he] at hl; rw [freshL_length] at hl; split at hl <;> exact absurd hl (by decide)
  | next hb hn hs hg hx he => rw [he] at hl; rw [freshL_length] at hl; split at hl <;> exact absurd hl (by decide)
/-- How many ops plans have. -/
theorem plan_length (f : Fl) (d : Nat) : ((planR f d).2 ≠ 0 ∧ (planR f d).1 = []) ∨ ((planR f d).2 = 0 ∧ ((planR f d).1.length = 2 ∨ (planR f d).1.length = 5 ∨ (planR f d).1.length = 6)) := by
  cases plan_is f d with
  | none h1 h2 => exact Or.inl ⟨h1, h2⟩
  | app i hb hn hs he => rw [he]; exact Or.inr ⟨rfl, Or.inl rfl⟩
  | first o ho hb hx he => rw [he]; exact Or.inr ⟨rfl, Or.inr (by rw [freshL_length]; cases goodH f o <;> decide)⟩
  | next hb hn hs hg hx he => rw [he]; exact Or.inr ⟨rfl, Or.inr (by rw [freshL_length]; cases goodH f (1 - bankK f) <;> decide)⟩
end Go.Proofs.Ytejhbamlnkhfcaa

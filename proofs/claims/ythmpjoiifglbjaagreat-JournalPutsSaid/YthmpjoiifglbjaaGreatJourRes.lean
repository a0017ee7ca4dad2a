/- What a journal keeps, on plain data; plain laws: no statement is proved here. -/
import Derived.Test.YthmpjoiifglbjaaGreatPlanRes
namespace Go.Proofs.YthmpjoiifglbjaaGreat
set_option linter.unusedVariables false

instance : DecidableEq Pk := fun a b => decidable_of_iff (a.bank = b.bank ∧ a.gen = b.gen ∧ a.seq = b.seq ∧ a.data = b.data) ⟨fun h => by cases a; cases b; simp_all, fun h => by rw [h]; exact ⟨rfl, rfl, rfl, rfl⟩⟩
structure Stp where
  data : Nat
  cut : Int
  mask : ByteArray
structure Lg where
  f : Fl
  acked : Int
  last : Nat
  flying : Bool
  flight : Nat
def ackB (g : Fl) (n len : Nat) (e : Int) (d : Nat) : Bool := decide (e = 0) && decide (n = len) && decide (pickE g = 0) && decide ((pickS g).data = d)
def putJ (f : Fl) (s : Stp) : Fl × Bool × Int :=
  if (planR f s.data).2 = 0 then
    ((playR f (planR f s.data).1 s.cut s.mask).1, ackB (playR f (planR f s.data).1 s.cut s.mask).1 (playR f (planR f s.data).1 s.cut s.mask).2.1 (planR f s.data).1.length (playR f (planR f s.data).1 s.cut s.mask).2.2 s.data, 0)
  else (f, false, (planR f s.data).2)
def playJ (l : Lg) (s : Stp) : Lg :=
  if (putJ l.f s).2.2 = 0 then
    (if (putJ l.f s).2.1 = true then ⟨(putJ l.f s).1, l.acked + 1, s.data, false, 0⟩
     else if pickS (putJ l.f s).1 = pickS l.f ∧ pickE (putJ l.f s).1 = pickE l.f then ⟨(putJ l.f s).1, l.acked, l.last, l.flying, l.flight⟩ else ⟨(putJ l.f s).1, l.acked, l.last, true, s.data⟩)
  else l
def runJ : Lg → List Stp → Lg
  | l, [] => l
  | l, s :: r => runJ (playJ l s) r
theorem runJ_snoc (l : Lg) (r : List Stp) (s : Stp) : runJ l (r ++ [s]) = playJ (runJ l r) s := by
  induction r generalizing l with
  | nil => rfl
  | cons a r ih => exact ih _
def startJ (f : Fl) : Lg := ⟨f, 0, 0, false, 0⟩

/-- What goes for a journal that began with a new flash of n slots, behind c steps at most. -/
structure JI (n c : Nat) (f : Fl) : Prop where
  hn : 1 ≤ n ∧ n ≤ 12
  z : ∀ k : Int, k = 0 ∨ k = 1 → (f.bank k).size = 24 * n + 24
  h : ∀ k : Int, k = 0 ∨ k = 1 → deadH (f.bank k) ∨ soundB (f.bank k) = true
  b : ∀ k : Int, k = 0 ∨ k = 1 → soundB (f.bank k) = true → genN (f.bank k) ≤ c ∧ (lastR (f.bank k)).seq ≤ c
  d : soundB (f.bank 0) = true → soundB (f.bank 1) = true → genN (f.bank 0) ≠ genN (f.bank 1)
  e : ∀ k : Int, k = 0 ∨ k = 1 → f.erases k ≤ c
theorem JI.even {n c : Nat} {f : Fl} (h : JI n c f) : evenF f = true := by
  have h0 : f.b0.size = 24 * n + 24 := h.z 0 (Or.inl rfl)
  have h1 : f.b1.size = 24 * n + 24 := h.z 1 (Or.inr rfl)
  have hn := h.hn
  have hs : slotsF ((24 * n + 24 : Nat) : Int) = n := by rw [show ((24 * n + 24 : Nat) : Int) = 24 * (n : Int) + 24 from by omega]; exact slotsF_size (by omega)
  unfold evenF
  rw [h0, h1, hs]
  simp
  omega
theorem JI.more {n c : Nat} {f : Fl} (h : JI n c f) : JI n (c + 1) f :=
  ⟨h.hn, h.z, h.h, fun k hk hs => by have := h.b k hk hs; omega, h.d, fun k hk => by have := h.e k hk; omega⟩
theorem JI.lt {n c : Nat} {f : Fl} (h : JI n c f) (hb : bankK f = 0 ∨ bankK f = 1) (hs : soundB (f.bank (1 - bankK f)) = true) : genN (f.bank (1 - bankK f)) < genN (f.bank (bankK f)) := by
  have h1 := (bankK_sound hb).2 hs
  have h2 := (bankK_sound hb).1
  have hd := h.d
  have e0 : (1 : Int) - 0 = 1 := rfl
  have e1 : (1 : Int) - 1 = 0 := rfl
  rcases hb with hb | hb
  · rw [hb, e0] at hs h1 ⊢; rw [hb] at h2; have := hd h2 hs; omega
  · rw [hb, e1] at hs h1 ⊢; rw [hb] at h2; have := hd hs h2; omega
theorem JI.slots {n c : Nat} {f : Fl} (h : JI n c f) {k : Int} (hk : k = 0 ∨ k = 1) : slotsF (f.bank k).size = n := by
  rw [h.z k hk, show ((24 * n + 24 : Nat) : Int) = 24 * (n : Int) + 24 from by omega]
  exact slotsF_size (by have := h.hn; omega)
theorem good_dead {f : Fl} {k : Int} (h : deadH (f.bank k)) : goodH f k = false := by
  have := deadH_not h
  unfold goodH
  exact beq_eq_false_iff_ne.2 fun e => this (gen_state.2 e)
theorem good_sound {f : Fl} {k : Int} (h : soundB (f.bank k) = true) : goodH f k = true ∧ stOf (slL (f.bank k) 0) 0 = 2 := by
  have h1 := gen_state.1 (sound_parts h).1
  have hz := sound_slots h
  have h2 := state_slL hz (k := 0) (by have := slots_le ((f.bank k).size : Int); omega)
  have h3 : stateF (f.bank k) 0 = stateF (f.bank k) ((0 : Nat) : Int) := rfl
  refine ⟨beq_iff_eq.2 h1, ?_⟩
  rw [← h1, h3, h2]; rfl
/-- One bank is replaced. -/
theorem JI.upd {n c : Nat} {f : Fl} (h : JI n c f) {o : Int} (ho : o = 0 ∨ o = 1) {v : ByteArray} {e : Int} (hz : v.size = (f.bank o).size) (hv : deadH v ∨ soundB v = true)
    (hb : soundB v = true → genN v ≤ c + 1 ∧ (lastR v).seq ≤ c + 1) (hd : soundB v = true → soundB (f.bank (1 - o)) = true → genN v ≠ genN (f.bank (1 - o))) (he : e ≤ c + 1) : JI n (c + 1) (upd f o v e) := by
  have hu := (upd_other f ho v e)
  have hoz := h.z o ho
  have ho1 : 1 - o = 0 ∨ 1 - o = 1 := by omega
  refine ⟨h.hn, two_banks ho ?_ ?_, two_banks ho ?_ ?_, two_banks ho ?_ ?_, ?_, two_banks ho ?_ ?_⟩
  · rw [upd_bank, hz, hoz]
  · rw [hu.1]; exact h.z _ ho1
  · rw [upd_bank]; exact hv
  · rw [hu.1]; exact h.h _ ho1
  · rw [upd_bank]; exact hb
  · rw [hu.1]; exact fun x => by have := h.b _ ho1 x; omega
  · rcases ho with rfl | rfl
    · intro x y; rw [upd_bank] at x ⊢; have h1 := hu.1; rw [show (1 : Int) - 0 = 1 from rfl] at h1; rw [h1] at y ⊢; exact hd x y
    · intro x y; rw [upd_bank] at y ⊢; have h1 := hu.1; rw [show (1 : Int) - 1 = 0 from rfl] at h1; rw [h1] at x ⊢; exact fun e => hd y x e.symm
  · rw [upd_erases]; exact he
  · rw [hu.2]; have := h.e _ ho1; omega
theorem upd_lim' (f : Fl) (k : Int) (u : ByteArray) (e : Int) : (Go.Proofs.YthmpjoiifglbjaaGreat.upd f k u e).lim = f.lim := upd_lim f k u e
/-- A step that is planned: what is read behind it. -/
theorem ji_step {n c : Nat} {f : Fl} (h : JI n c f) {d : Nat} (hd : d < 18446744073709551616) (hp : (planR f d).2 = 0) (cut : Int) (m : ByteArray) :
    ∃ g, playR f (planR f d).1 cut m = (g, (if 0 ≤ cut ∧ cut < ((planR f d).1.length : Int) then cut.toNat else (planR f d).1.length), 0) ∧ JI n (c + 1) g ∧ g.lim = f.lim ∧
      (pickS g = pickS f ∧ pickE g = pickE f ∨ pickE g = 0 ∧ (pickS g).data = d ∧ (pickS g).seq = wantN f) ∧
      (¬ (0 ≤ cut ∧ cut < ((planR f d).1.length : Int)) → pickE g = 0 ∧ (pickS g).data = d ∧ (pickS g).seq = wantN f) := by
  cases plan_is f d with
  | none h1 _ => exact absurd hp h1
  | app i hb hn hs he =>
    obtain ⟨t, ht, hpl, hc1, hw, hbk, hps, hsd, hsz⟩ := append_step hb hn hs hd cut m
    rw [he]
    have hk := (bankK_sound hb).1
    have hbb := h.b _ hb hk
    have hseq : (pickS f).seq = (lastR (f.bank (bankK f))).seq := by rw [pickS_some hb]
    have hgn : genN (putT (f.bank (bankK f)) (i + 1) t) = genN (f.bank (bankK f)) := by
      have h1 := gen_pick (f := upd f (bankK f) (putT (f.bank (bankK f)) (i + 1) t) (f.erases (bankK f))) (by rw [hbk]; exact hb)
      rw [hbk, upd_bank, hps] at h1
      rw [← h1]
      split
      · exact gen_pick hb
      · exact gen_pick hb
    have hls : (lastR (putT (f.bank (bankK f)) (i + 1) t)).seq ≤ c + 1 := by
      have h1 := pickS_some (f := upd f (bankK f) (putT (f.bank (bankK f)) (i + 1) t) (f.erases (bankK f))) (by rw [hbk]; exact hb)
      rw [hbk, upd_bank, hps] at h1
      split at h1
      · have := congrArg Pk.seq h1; dsimp only at this; omega
      · have := congrArg Pk.seq h1; dsimp only at this; omega
    have hnew : t = bs (encL ⟨2, (pickS f).seq + 1, d⟩) → pickE (upd f (bankK f) (putT (f.bank (bankK f)) (i + 1) t) (f.erases (bankK f))) = 0 ∧ (pickS (upd f (bankK f) (putT (f.bank (bankK f)) (i + 1) t) (f.erases (bankK f)))).data = d ∧ (pickS (upd f (bankK f) (putT (f.bank (bankK f)) (i + 1) t) (f.erases (bankK f)))).seq = wantN f := fun ht2 => by
      rw [if_pos ht2] at hps
      exact ⟨pickE_zero.2 (by rw [hbk]; exact hb), by rw [hps], by rw [hps, wantN_some hb]⟩
    refine ⟨_, hpl, h.upd hb hsz (Or.inr hsd) (fun _ => ⟨by omega, hls⟩) (fun _ y => ?_) (by have := h.e _ hb; omega), upd_lim _ _ _ _, ?_, fun hc => hnew (hw hc)⟩
    · rw [hgn]; have := h.lt hb y; omega
    · by_cases ht2 : t = bs (encL ⟨2, (pickS f).seq + 1, d⟩)
      · exact Or.inr (hnew ht2)
      · left
        rw [if_neg ht2] at hps
        exact ⟨hps, by rw [pickE_zero.2 (show bankK (upd f (bankK f) (putT (f.bank (bankK f)) (i + 1) t) (f.erases (bankK f))) = 0 ∨ _ from by rw [hbk]; exact hb), pickE_zero.2 hb]⟩
  | first o ho hb hl he =>
    obtain ⟨hz, h48⟩ := bank48 hp ho
    obtain ⟨v, e, hpl, hv, hee, hw, hcut⟩ := fresh_play f ho (goodH f o) 1 1 d h48 hl cut m
    rw [he]
    have hns := bankG_none.1 (show bankG f.b0 f.b1 < 0 from hb)
    have hun : ∀ k : Int, k = 0 ∨ k = 1 → soundB (f.bank k) = false := fun k hk => by
      rcases hk with rfl | rfl
      · exact hns.1
      · exact hns.2
    have hdd : ∀ k : Int, k = 0 ∨ k = 1 → deadH (f.bank k) := fun k hk => (h.h k hk).resolve_right (by rw [hun k hk]; decide)
    have ho1 : 1 - o = 0 ∨ 1 - o = 1 := by omega
    have heo := h.e o ho
    have hfp : ∀ e', bankK (upd f o (freshB (f.bank o).size 1 1 d) e') = o ∧ pickS (upd f o (freshB (f.bank o).size 1 1 d) e') = ⟨o, 1, 1, d⟩ := fun e' => fresh_pick ho e' hz (by decide) (by decide) hd (fun x => by rw [hun _ ho1] at x; cases x)
    have hnew : v = freshB (f.bank o).size 1 1 d → pickE (upd f o v e) = 0 ∧ (pickS (upd f o v e)).data = d ∧ (pickS (upd f o v e)).seq = wantN f := fun hv2 => by
      rw [hv2, pickE_zero.2 (by rw [(hfp e).1]; exact ho), (hfp e).2, wantN_none hb]; exact ⟨rfl, rfl, rfl⟩
    have hcc := hcut (fun x => by rw [good_dead (hdd o ho)] at x; cases x) (fun _ => hdd o ho)
    have hsame : soundB v = false → pickS (upd f o v e) = pickS f ∧ pickE (upd f o v e) = pickE f := fun hs0 => by
      have h1 : bankK (upd f o v e) < 0 := by
        rcases ho with rfl | rfl
        · exact bankG_none.2 ⟨hs0, hns.2⟩
        · exact bankG_none.2 ⟨hns.1, hs0⟩
      rw [pickS_none h1, pickS_none hb]
      unfold pickE
      rw [if_pos h1, if_pos hb]; exact ⟨rfl, rfl⟩
    refine ⟨_, hpl, h.upd ho hv ?_ ?_ (fun _ y => by rw [hun _ ho1] at y; cases y) (by omega), upd_lim _ _ _ _, ?_, fun hc => hnew (hw hc).1⟩
    · rcases hcc with ⟨rfl, _⟩ | h1 | ⟨rfl, _⟩
      · exact Or.inr (fresh_says hz (by decide) (by decide) hd).1
      · exact Or.inl h1
      · exact h.h o ho
    · intro hs1
      rcases hcc with ⟨rfl, _⟩ | h1 | ⟨rfl, _⟩
      · obtain ⟨q1, q2, q3, _⟩ := fresh_says (z := (f.bank o).size) (g := 1) (seq := 1) (data := d) hz (by decide) (by decide) hd
        rw [q2, q3]; exact ⟨by omega, by show 1 ≤ c + 1; omega⟩
      · rw [deadH_sound h1] at hs1; cases hs1
      · rw [hun o ho] at hs1; cases hs1
    · rcases hcc with ⟨hv2, _⟩ | h1 | ⟨hv2, _⟩
      · exact Or.inr (hnew hv2)
      · exact Or.inl (hsame (deadH_sound h1))
      · exact Or.inl (hsame (by rw [hv2]; exact hun o ho))
  | next hb hn hs hg hl he =>
    have ho : 1 - bankK f = 0 ∨ 1 - bankK f = 1 := by omega
    obtain ⟨hz, h48⟩ := bank48 hp ho
    obtain ⟨v, e, hpl, hv, hee, hw, hcut⟩ := fresh_play f ho (goodH f (1 - bankK f)) ((pickS f).gen + 1) ((pickS f).seq + 1) d h48 hl cut m
    rw [he]
    have g1 := gen_pick hb
    have g2 := genN_lt (f.bank (bankK f))
    have g3 := (lastR_lt (f.bank (bankK f))).1
    have g4 : (pickS f).seq = (lastR (f.bank (bankK f))).seq := by rw [pickS_some hb]
    unfold topN at hs hg
    have hbb := h.b _ hb (bankK_sound hb).1
    have heo := h.e _ ho
    have hback : 1 - (1 - bankK f) = bankK f := by omega
    have hfp : ∀ e', bankK (upd f (1 - bankK f) (freshB (f.bank (1 - bankK f)).size ((pickS f).gen + 1) ((pickS f).seq + 1) d) e') = 1 - bankK f ∧ pickS (upd f (1 - bankK f) (freshB (f.bank (1 - bankK f)).size ((pickS f).gen + 1) ((pickS f).seq + 1) d) e') = ⟨1 - bankK f, (pickS f).gen + 1, (pickS f).seq + 1, d⟩ := fun e' => fresh_pick ho e' hz (by omega) (by omega) hd (fun x => by rw [hback, ← g1]; omega)
    have hnew : v = freshB (f.bank (1 - bankK f)).size ((pickS f).gen + 1) ((pickS f).seq + 1) d → pickE (upd f (1 - bankK f) v e) = 0 ∧ (pickS (upd f (1 - bankK f) v e)).data = d ∧ (pickS (upd f (1 - bankK f) v e)).seq = wantN f := fun hv2 => by
      rw [hv2, pickE_zero.2 (by rw [(hfp e).1]; exact ho), (hfp e).2, wantN_some hb]; exact ⟨rfl, rfl, rfl⟩
    have hcc := hcut (fun x => by
      rcases h.h _ ho with h1 | h1
      · rw [good_dead h1] at x; cases x
      · exact (good_sound h1).2) (fun x => by
      rcases h.h _ ho with h1 | h1
      · exact h1
      · rw [(good_sound h1).1] at x; cases x)
    obtain ⟨q1, q2, q3, _⟩ := fresh_says (z := (f.bank (1 - bankK f)).size) (g := (pickS f).gen + 1) (seq := (pickS f).seq + 1) (data := d) hz (by omega) (by omega) hd
    have hsame : (soundB v = true → genN v < genN (f.bank (bankK f))) → pickS (upd f (1 - bankK f) v e) = pickS f ∧ pickE (upd f (1 - bankK f) v e) = pickE f := fun hs0 => by
      obtain ⟨p1, p2⟩ := other_pick (e := e) hb hs0
      exact ⟨p2, by rw [pickE_zero.2 (show bankK (upd f (1 - bankK f) v e) = 0 ∨ _ from by rw [p1]; exact hb), pickE_zero.2 hb]⟩
    refine ⟨_, hpl, h.upd ho hv ?_ ?_ ?_ (by omega), upd_lim _ _ _ _, ?_, fun hc => hnew (hw hc).1⟩
    · rcases hcc with ⟨rfl, _⟩ | h1 | ⟨rfl, _⟩
      · exact Or.inr q1
      · exact Or.inl h1
      · exact h.h _ ho
    · intro hs1
      rcases hcc with ⟨rfl, _⟩ | h1 | ⟨rfl, _⟩
      · rw [q2, q3]; exact ⟨by omega, by show (pickS f).seq + 1 ≤ c + 1; omega⟩
      · rw [deadH_sound h1] at hs1; cases hs1
      · have := h.b _ ho hs1; omega
    · intro hs1 hs2
      rw [hback]
      rcases hcc with ⟨rfl, _⟩ | h1 | ⟨rfl, _⟩
      · rw [q2]; omega
      · rw [deadH_sound h1] at hs1; cases hs1
      · have := h.lt hb hs1; omega
    · rcases hcc with ⟨hv2, _⟩ | h1 | ⟨hv2, _⟩
      · exact Or.inr (hnew hv2)
      · exact Or.inl (hsame (fun x => by rw [deadH_sound h1] at x; cases x))
      · exact Or.inl (hsame (fun x => by rw [hv2] at x ⊢; exact h.lt hb x))
end Go.Proofs.YthmpjoiifglbjaaGreat
namespace Go.Proofs.YthmpjoiifglbjaaGreat
set_option linter.unusedVariables false

theorem new_ji {n : Nat} (hn : 1 ≤ n ∧ n ≤ 12) {lim : Int} (hl : 0 ≤ lim ∧ lim ≤ 1000) :
    JI n 0 (newF ((24 * n + 24 : Nat) : Int) lim) ∧ bankK (newF ((24 * n + 24 : Nat) : Int) lim) < 0 ∧ (newF ((24 * n + 24 : Nat) : Int) lim).lim = lim ∧ ∀ k : Int, (newF ((24 * n + 24 : Nat) : Int) lim).erases k = 0 := by
  have hf : newF ((24 * n + 24 : Nat) : Int) lim = ⟨blankT (24 * n + 24), blankT (24 * n + 24), 0, 0, lim⟩ := by
    unfold newF; rw [if_neg (by omega)]; rfl
  have hd : deadH (blankT (24 * n + 24)) := deadH_rep (slL_blank (by omega))
  have hs := deadH_sound hd
  have hz := blankT_len (24 * n + 24)
  rw [hf]
  generalize blankT (24 * n + 24) = B at *
  have e : ∀ k : Int, (Fl.mk B B 0 0 lim).bank k = B := fun k => by unfold Fl.bank; split <;> rfl
  have ee : ∀ k : Int, (Fl.mk B B 0 0 lim).erases k = 0 := fun k => by unfold Fl.erases; split <;> rfl
  refine ⟨⟨hn, fun k _ => by rw [e, hz], fun k _ => Or.inl (by rw [e]; exact hd), fun k _ h => (by rw [e, hs] at h; cases h), fun h => (by rw [e, hs] at h; cases h), fun k _ => by rw [ee]; exact Int.le_refl _⟩, ?_, rfl, ee⟩
  exact bankG_none.2 ⟨hs, hs⟩
theorem pickE_none {f : Fl} (h : bankK f < 0) : pickE f = 10 := if_pos h
theorem put_err {f : Fl} {s : Stp} (h : (planR f s.data).2 ≠ 0) : putJ f s = (f, false, (planR f s.data).2) := if_neg h
theorem put_e (f : Fl) (s : Stp) : (putJ f s).2.2 = (planR f s.data).2 := by
  unfold putJ; split
  · rename_i h; exact h.symm
  · rfl
/-- A step of a journal that began with a new flash. -/
theorem put_ji {n c : Nat} {f : Fl} (h : JI n c f) {s : Stp} (hd : s.data < 18446744073709551616) (hp : (planR f s.data).2 = 0) :
    JI n (c + 1) (putJ f s).1 ∧ (putJ f s).1.lim = f.lim ∧
    (pickS (putJ f s).1 = pickS f ∧ pickE (putJ f s).1 = pickE f ∨ pickE (putJ f s).1 = 0 ∧ (pickS (putJ f s).1).data = s.data ∧ (pickS (putJ f s).1).seq = wantN f) ∧
    ((putJ f s).2.1 = true → pickE (putJ f s).1 = 0 ∧ (pickS (putJ f s).1).data = s.data ∧ (pickS (putJ f s).1).seq = wantN f) ∧
    ((putJ f s).2.1 = true ↔ ¬ (0 ≤ s.cut ∧ s.cut < ((planR f s.data).1.length : Int))) := by
  obtain ⟨g, hg, hJ, hl, ha, hb⟩ := ji_step h hd hp s.cut s.mask
  have e : putJ f s = (g, ackB g (if 0 ≤ s.cut ∧ s.cut < ((planR f s.data).1.length : Int) then s.cut.toNat else (planR f s.data).1.length) (planR f s.data).1.length 0 s.data, 0) := by
    unfold putJ; rw [if_pos hp, hg]
  rw [e]
  refine ⟨hJ, hl, ha, ?_, ?_⟩
  · intro hk
    refine hb fun hc => ?_
    have hk2 : ackB g (if 0 ≤ s.cut ∧ s.cut < ((planR f s.data).1.length : Int) then s.cut.toNat else (planR f s.data).1.length) (planR f s.data).1.length 0 s.data = true := hk
    unfold ackB at hk2
    rw [if_pos hc] at hk2
    simp at hk2
    omega
  · constructor
    · intro hk hc
      have hk2 : ackB g (if 0 ≤ s.cut ∧ s.cut < ((planR f s.data).1.length : Int) then s.cut.toNat else (planR f s.data).1.length) (planR f s.data).1.length 0 s.data = true := hk
      unfold ackB at hk2
      rw [if_pos hc] at hk2
      simp at hk2
      omega
    · intro hc
      obtain ⟨b1, b2, b3⟩ := hb hc
      show ackB g _ _ 0 s.data = true
      unfold ackB
      rw [if_neg hc, b1, b2]; simp
/-- What a log says is what is read. -/
structure LI (n c : Nat) (l : Lg) : Prop where
  j : JI n c l.f
  a : 0 ≤ l.acked ∧ l.acked ≤ c
  p : pickE l.f = 0 ↔ 0 < l.acked ∨ l.flying = true
  q : pickE l.f = 0 → (pickS l.f).data = if l.flying = true then l.flight else l.last
theorem play_err {l : Lg} {s : Stp} (h : (planR l.f s.data).2 ≠ 0) : playJ l s = l := by
  unfold playJ; rw [put_e, if_neg h]
theorem play_acked {l : Lg} {s : Stp} (h : (planR l.f s.data).2 = 0) (hk : (putJ l.f s).2.1 = true) : playJ l s = ⟨(putJ l.f s).1, l.acked + 1, s.data, false, 0⟩ := by
  unfold playJ; rw [put_e, if_pos h, if_pos hk]
theorem play_same {l : Lg} {s : Stp} (h : (planR l.f s.data).2 = 0) (hk : (putJ l.f s).2.1 = false) (hs : pickS (putJ l.f s).1 = pickS l.f ∧ pickE (putJ l.f s).1 = pickE l.f) : playJ l s = ⟨(putJ l.f s).1, l.acked, l.last, l.flying, l.flight⟩ := by
  unfold playJ; rw [put_e, if_pos h, if_neg (by rw [hk]; decide), if_pos hs]
theorem play_new {l : Lg} {s : Stp} (h : (planR l.f s.data).2 = 0) (hk : (putJ l.f s).2.1 = false) (hs : ¬ (pickS (putJ l.f s).1 = pickS l.f ∧ pickE (putJ l.f s).1 = pickE l.f)) : playJ l s = ⟨(putJ l.f s).1, l.acked, l.last, true, s.data⟩ := by
  unfold playJ; rw [put_e, if_pos h, if_neg (by rw [hk]; decide), if_neg hs]
theorem play_li {n c : Nat} {l : Lg} (h : LI n c l) {s : Stp} (hd : s.data < 18446744073709551616) : LI n (c + 1) (playJ l s) ∧ (playJ l s).f.lim = l.f.lim ∧ (playJ l s).f = (putJ l.f s).1 := by
  have ha := h.a
  by_cases hp : (planR l.f s.data).2 = 0
  · obtain ⟨p1, p2, p3, p4, p5⟩ := put_ji h.j hd hp
    cases hk : (putJ l.f s).2.1
    · by_cases hs : pickS (putJ l.f s).1 = pickS l.f ∧ pickE (putJ l.f s).1 = pickE l.f
      · rw [play_same hp hk hs]
        refine ⟨⟨p1, ⟨ha.1, by show l.acked ≤ _; omega⟩, ?_, ?_⟩, p2, rfl⟩
        · show pickE (putJ l.f s).1 = 0 ↔ _; rw [hs.2]; exact h.p
        · show pickE (putJ l.f s).1 = 0 → (pickS (putJ l.f s).1).data = _; rw [hs.2, hs.1]; exact h.q
      · rw [play_new hp hk hs]
        obtain ⟨q1, q2, q3⟩ := p3.resolve_left hs
        exact ⟨⟨p1, ⟨ha.1, by show l.acked ≤ _; omega⟩, ⟨fun _ => Or.inr rfl, fun _ => q1⟩, fun _ => by show (pickS (putJ l.f s).1).data = s.data; exact q2⟩, p2, rfl⟩
    · rw [play_acked hp hk]
      obtain ⟨q1, q2, q3⟩ := p4 hk
      exact ⟨⟨p1, ⟨by show 0 ≤ l.acked + 1; omega, by show l.acked + 1 ≤ _; omega⟩, ⟨fun _ => Or.inl (by show 0 < l.acked + 1; omega), fun _ => q1⟩, fun _ => by show (pickS (putJ l.f s).1).data = s.data; exact q2⟩, p2, rfl⟩
  · rw [play_err hp, put_err hp]
    exact ⟨⟨h.j.more, ⟨ha.1, by omega⟩, h.p, h.q⟩, rfl, rfl⟩
/-- The number that is read, 0 if none is. -/
def seqN (f : Fl) : Nat := if pickE f = 0 then (pickS f).seq else 0
theorem seq_some {f : Fl} (h : pickE f = 0) : seqN f = (pickS f).seq := if_pos h
theorem want_seq (f : Fl) : wantN f = seqN f + 1 := by
  unfold wantN seqN; split <;> omega
theorem JI.seq {n c : Nat} {f : Fl} (h : JI n c f) : seqN f ≤ c := by
  unfold seqN; split
  · rename_i h0
    have hb := pickE_zero.1 h0
    rw [pickS_some hb]
    exact (h.b _ hb (bankK_sound hb).1).2
  · exact Nat.zero_le _
theorem play_seq {n c : Nat} {l : Lg} (h : LI n c l) {s : Stp} (hd : s.data < 18446744073709551616) :
    seqN l.f ≤ seqN (playJ l s).f ∧ (pickE l.f = 0 → pickE (playJ l s).f = 0) ∧ (l.acked < (playJ l s).acked → pickE (playJ l s).f = 0 ∧ seqN (playJ l s).f = seqN l.f + 1) := by
  by_cases hp : (planR l.f s.data).2 = 0
  · obtain ⟨p1, p2, p3, p4, p5⟩ := put_ji h.j hd hp
    rw [want_seq] at p3 p4
    have hf : (playJ l s).f = (putJ l.f s).1 := (play_li h hd).2.2
    have hcase : seqN l.f ≤ seqN (putJ l.f s).1 ∧ (pickE l.f = 0 → pickE (putJ l.f s).1 = 0) := by
      rcases p3 with ⟨a, b⟩ | ⟨a, _, b⟩
      · unfold seqN; rw [a, b]; exact ⟨Nat.le_refl _, id⟩
      · rw [seq_some a, b]; exact ⟨by omega, fun _ => a⟩
    refine ⟨by rw [hf]; exact hcase.1, by rw [hf]; exact hcase.2, fun hlt => ?_⟩
    cases hk : (putJ l.f s).2.1
    · by_cases hs : pickS (putJ l.f s).1 = pickS l.f ∧ pickE (putJ l.f s).1 = pickE l.f
      · rw [play_same hp hk hs] at hlt; exact absurd hlt (Int.lt_irrefl _)
      · rw [play_new hp hk hs] at hlt; exact absurd hlt (Int.lt_irrefl _)
    · obtain ⟨q1, q2, q3⟩ := p4 hk
      rw [hf, seq_some q1]; exact ⟨q1, q3⟩
  · rw [play_err hp]; exact ⟨Nat.le_refl _, id, fun x => absurd x (Int.lt_irrefl _)⟩
theorem run_li {n : Nat} {f : Fl} {c : Nat} : ∀ (r : List Stp) (l : Lg), LI n c l → (∀ s ∈ r, s.data < 18446744073709551616) → LI n (c + r.length) (runJ l r) ∧ (runJ l r).f.lim = l.f.lim
  | [], l, h, _ => ⟨h, rfl⟩
  | s :: r, l, h, hr => by
    obtain ⟨h1, h2, _⟩ := play_li h (hr s (by simp))
    obtain ⟨h3, h4⟩ := run_li (f := f) (c := c + 1) r (playJ l s) h1 (fun x hx => hr x (by simp [hx]))
    exact ⟨by rw [List.length_cons, show c + (r.length + 1) = c + 1 + r.length from by omega]; exact h3, by rw [← h2]; exact h4⟩
theorem start_li {n : Nat} (hn : 1 ≤ n ∧ n ≤ 12) {lim : Int} (hl : 0 ≤ lim ∧ lim ≤ 1000) : LI n 0 (startJ (newF ((24 * n + 24 : Nat) : Int) lim)) := by
  obtain ⟨h1, h2, _⟩ := new_ji hn hl
  have h3 := pickE_none h2
  refine ⟨h1, ⟨Int.le_refl _, Int.le_refl _⟩, ⟨fun h => ?_, fun h => ?_⟩, fun h => ?_⟩
  · have : pickE (newF ((24 * n + 24 : Nat) : Int) lim) = 0 := h
    rw [h3] at this; exact absurd this (by decide)
  · rcases h with h | h
    · exact absurd h (Int.lt_irrefl 0)
    · cases h
  · have : pickE (newF ((24 * n + 24 : Nat) : Int) lim) = 0 := h
    rw [h3] at this; exact absurd this (by decide)
/-- A plan's error does not depend on what is written. -/
def opKey (o : PwOp) : Int × Int × Int × Nat := (o.kind, o.bank, o.q, o.d.size)
theorem appL_keys (k slot : Int) (seq a b : Nat) : (appL k slot seq a).map opKey = (appL k slot seq b).map opKey := by
  simp [appL, opKey, body_bs]
theorem freshL_keys (o : Int) (kill : Bool) (g seq a b : Nat) : (freshL o kill g seq a).map opKey = (freshL o kill g seq b).map opKey := by
  cases kill <;> simp [freshL, freshO, killO, opKey, body_bs]
theorem plan_alike (f : Fl) (a b : Nat) : (planR f a).2 = (planR f b).2 ∧ (planR f a).1.map opKey = (planR f b).1.map opKey := by
  unfold planR
  by_cases h1 : evenF f = false
  · simp only [if_pos h1]; exact ⟨trivial, trivial⟩
  simp only [if_neg h1]
  by_cases h2 : bankK f < 0
  · simp only [if_pos h2]
    by_cases h3 : f.e0 < f.lim
    · simp only [if_pos h3]; exact ⟨trivial, freshL_keys _ _ _ _ _ _⟩
    · simp only [if_neg h3]
      by_cases h4 : f.e1 < f.lim
      · simp only [if_pos h4]; exact ⟨trivial, freshL_keys _ _ _ _ _ _⟩
      · simp only [if_neg h4]; exact ⟨trivial, trivial⟩
  simp only [if_neg h2]
  by_cases h3 : (pickS f).seq = topN
  · simp only [if_pos h3]; exact ⟨trivial, trivial⟩
  simp only [if_neg h3]
  by_cases h4 : 0 < nextF (f.bank (bankK f))
  · simp only [if_pos h4]; exact ⟨trivial, appL_keys _ _ _ _ _⟩
  simp only [if_neg h4]
  by_cases h5 : (pickS f).gen = topN
  · simp only [if_pos h5]; exact ⟨trivial, trivial⟩
  simp only [if_neg h5]
  by_cases h6 : f.lim ≤ f.erases (otherN (bankK f))
  · simp only [if_pos h6]; exact ⟨trivial, trivial⟩
  · simp only [if_neg h6]; exact ⟨trivial, freshL_keys _ _ _ _ _ _⟩
theorem plan_len_le (f : Fl) (d : Nat) : (planR f d).1.length ≤ 6 := by
  rcases plan_length f d with ⟨_, h⟩ | ⟨_, h | h | h⟩
  · rw [h]; exact Nat.zero_le _
  · omega
  · omega
  · omega
/-- A journal that is not worn out is planned. -/
theorem plan_wears {n c : Nat} {f : Fl} (h : JI n c f) (hc : c < 18446744073709551615) (d : Nat) : (planR f d).2 = 0 ∨ (planR f d).2 = 4 ∧ (f.lim ≤ f.erases 0 ∨ f.lim ≤ f.erases 1) := by
  have hev := h.even
  unfold planR
  rw [if_neg (by rw [hev]; decide)]
  by_cases h2 : bankK f < 0
  · rw [if_pos h2]
    by_cases h3 : f.e0 < f.lim
    · rw [if_pos h3]; exact Or.inl rfl
    · rw [if_neg h3]
      by_cases h4 : f.e1 < f.lim
      · rw [if_pos h4]; exact Or.inl rfl
      · rw [if_neg h4]; exact Or.inr ⟨rfl, Or.inl (by show f.lim ≤ f.e0; omega)⟩
  have hb : bankK f = 0 ∨ bankK f = 1 := by have := bankK_cases f; omega
  have hbb := h.b _ hb (bankK_sound hb).1
  have e1 : (pickS f).seq = (lastR (f.bank (bankK f))).seq := by rw [pickS_some hb]
  have e2 := gen_pick hb
  rw [if_neg h2, if_neg (by unfold topN; omega)]
  by_cases h4 : 0 < nextF (f.bank (bankK f))
  · rw [if_pos h4]; exact Or.inl rfl
  rw [if_neg h4, if_neg (by unfold topN; omega)]
  by_cases h6 : f.lim ≤ f.erases (otherN (bankK f))
  · rw [if_pos h6]
    refine Or.inr ⟨rfl, ?_⟩
    rw [other_is hb] at h6
    rcases hb with hb | hb
    · rw [hb] at h6; exact Or.inr h6
    · rw [hb] at h6; exact Or.inl h6
  · rw [if_neg h6]; exact Or.inl rfl
theorem next_put {s t : ByteArray} {i : Nat} (hn : nextF s = i + 1) (ht : t.size = 24) (hst : stOf (bl t) ((i : Int) + 1) ≠ 0) : nextF (putT s (i + 1) t) = if i + 1 = slotsN s then 0 else i + 2 := (scan_put hn ht hst).2.2.2.1
/-- A journal of n slots that was never cut, behind n * q + r + 1 states. -/
structure EI (n q r : Nat) (most : Nat) (l : Lg) : Prop where
  j : JI n (n * q + r + 1) l.f
  hr : r < n
  hb : bankK l.f = (q : Int) % 2
  hn : nextF (l.f.bank (bankK l.f)) = if r + 1 = n then 0 else r + 2
  e1 : l.f.erases (bankK l.f) = (q : Int) / 2 + 1
  e2 : l.f.erases (1 - bankK l.f) = ((q : Int) + 1) / 2
  hl : l.f.lim = most
  a : l.acked = (n * q + r + 1 : Nat)
theorem EI.pick {n q r most : Nat} {l : Lg} (h : EI n q r most l) : bankK l.f = 0 ∨ bankK l.f = 1 := by have := h.hb; omega
theorem EI.wear {n q r most : Nat} {l : Lg} (h : EI n q r most l) : l.f.e0 + l.f.e1 = (q : Int) + 1 := by
  have h1 := h.e1
  have h2 := h.e2
  have e0 : l.f.erases 0 = l.f.e0 := rfl
  have e1 : l.f.erases 1 = l.f.e1 := rfl
  rcases h.pick with hb | hb
  · rw [hb, show (1 : Int) - 0 = 1 from rfl] at h2; rw [hb] at h1; omega
  · rw [hb, show (1 : Int) - 1 = 0 from rfl] at h2; rw [hb] at h1; omega
theorem whole_play {n c : Nat} {l : Lg} (h : JI n c l.f) {d : Nat} (hd : d < 18446744073709551616) (hp : (planR l.f d).2 = 0) {cut : Int} (hc : cut < 0 ∨ 6 ≤ cut) (m : ByteArray) : playJ l ⟨d, cut, m⟩ = ⟨(playR l.f (planR l.f d).1 cut m).1, l.acked + 1, d, false, 0⟩ ∧ (putJ l.f ⟨d, cut, m⟩).2.1 = true := by
  have h5 := (put_ji (s := ⟨d, cut, m⟩) h hd hp).2.2.2.2
  have hlen := plan_len_le l.f d
  have hk := h5.2 (by show ¬ (0 ≤ cut ∧ cut < ((planR l.f d).1.length : Int)); omega)
  refine ⟨?_, hk⟩
  rw [play_acked (s := ⟨d, cut, m⟩) hp hk]
  unfold putJ
  rw [if_pos hp]
/-- The step behind n * q + r + 1 states: an append. -/
theorem EI.app {n q r most : Nat} {l : Lg} (h : EI n q r most l) (hc : n * q + r + 1 < 1000000) (hr : r + 1 < n) {d : Nat} (hd : d < 18446744073709551616) (m : ByteArray) : EI n q (r + 1) most (playJ l ⟨d, -1, m⟩) ∧ (playJ l ⟨d, -1, m⟩).last = d := by
  have hb := h.pick
  have hn := h.hn
  rw [if_neg (by omega)] at hn
  have hbb := h.j.b _ hb (bankK_sound hb).1
  have hsq : (pickS l.f).seq = (lastR (l.f.bank (bankK l.f))).seq := by rw [pickS_some hb]
  have hs : (pickS l.f).seq ≠ topN := by unfold topN; omega
  have hp : planR l.f d = (appL (bankK l.f) ((r + 1 + 1 : Nat) : Int) ((pickS l.f).seq + 1) d, 0) := by
    unfold planR
    rw [if_neg (by rw [h.j.even]; decide), if_neg (by omega), if_neg hs, if_pos (by omega), hn]
  obtain ⟨t, ht, hpl, _, hw, hbk, hps, hsd, hsz⟩ := append_step hb (i := r + 1) hn hs hd (-1) m
  have hte := hw (by omega)
  rw [if_pos hte] at hps
  obtain ⟨w1, w2⟩ := whole_play h.j hd (by rw [hp]) (Or.inl (by decide)) (cut := -1) m
  rw [hp, hpl] at w1
  have hJ := (put_ji (s := ⟨d, -1, m⟩) h.j hd (show (planR l.f d).2 = 0 from by rw [hp])).1
  have hg : (putJ l.f ⟨d, -1, m⟩).1 = upd l.f (bankK l.f) (putT (l.f.bank (bankK l.f)) (r + 1 + 1) t) (l.f.erases (bankK l.f)) := by
    unfold putJ
    rw [if_pos (show (planR l.f d).2 = 0 from by rw [hp])]
    show (playR l.f (planR l.f d).1 (-1) m).1 = _
    rw [hp, hpl]
  rw [hg] at hJ
  have hst : stOf (bl t) (((r + 1 : Nat) : Int) + 1) ≠ 0 := by
    rw [hte, bl_bs, st_enc (rec_ok 2 ⟨by decide, by decide⟩ (by omega) hd) ⟨by show (2 : Int) ≤ 2; omega, by show (2 : Int) ≤ 3; omega⟩ (by omega)]; decide
  have hnx := next_put hn ht hst
  have hN : slotsN (l.f.bank (bankK l.f)) = n := by have h1 := slotsN_eq (l.f.bank (bankK l.f)); rw [h.j.slots hb] at h1; omega
  rw [hN] at hnx
  have ha := h.a
  rw [w1]
  refine ⟨⟨hJ, hr, ?_, ?_, ?_, ?_, ?_, ?_⟩, rfl⟩
  · show bankK (upd _ _ _ _) = _; rw [hbk]; exact h.hb
  · show nextF ((upd _ _ _ _).bank (bankK (upd _ _ _ _))) = _; rw [hbk, upd_bank, hnx]
  · show (upd _ _ _ _).erases (bankK (upd _ _ _ _)) = _; rw [hbk, upd_erases]; exact h.e1
  · show (upd _ _ _ _).erases (1 - bankK (upd _ _ _ _)) = _; rw [hbk, (upd_other l.f hb _ _).2]; exact h.e2
  · show (upd _ _ _ _).lim = _; rw [upd_lim]; exact h.hl
  · show l.acked + 1 = _; omega
/-- The step behind n * (q + 1) states: the other bank is fresh, or it is worn. -/
theorem EI.next {n q r most : Nat} {l : Lg} (h : EI n q r most l) (hc : n * q + r + 1 < 1000000) (hr : r + 1 = n) {d : Nat} (hd : d < 18446744073709551616) (m : ByteArray) :
    (q + 1 < 2 * most → EI n (q + 1) 0 most (playJ l ⟨d, -1, m⟩) ∧ (playJ l ⟨d, -1, m⟩).last = d) ∧ (2 * most ≤ q + 1 → playJ l ⟨d, -1, m⟩ = l) := by
  have hb := h.pick
  have hn := h.hn
  rw [if_pos hr] at hn
  have hbb := h.j.b _ hb (bankK_sound hb).1
  have hsq : (pickS l.f).seq = (lastR (l.f.bank (bankK l.f))).seq := by rw [pickS_some hb]
  have hgq := gen_pick hb
  have ho : 1 - bankK l.f = 0 ∨ 1 - bankK l.f = 1 := by omega
  have e2 := h.e2
  have hlim := h.hl
  refine ⟨fun hq => ?_, fun hq => ?_⟩
  · have hp : planR l.f d = (freshL (1 - bankK l.f) (goodH l.f (1 - bankK l.f)) ((pickS l.f).gen + 1) ((pickS l.f).seq + 1) d, 0) := by
      unfold planR
      rw [if_neg (by rw [h.j.even]; decide), if_neg (by omega), if_neg (by unfold topN; omega), if_neg (by omega), if_neg (by unfold topN; omega), other_is hb, if_neg (by omega)]
    have hp0 : (planR l.f d).2 = 0 := by rw [hp]
    obtain ⟨hz, h48⟩ := bank48 hp0 ho
    obtain ⟨v, e, hpl, hv, hee, hw, _⟩ := fresh_play l.f ho (goodH l.f (1 - bankK l.f)) ((pickS l.f).gen + 1) ((pickS l.f).seq + 1) d h48 (by omega) (-1) m
    obtain ⟨hv2, he2⟩ := hw (by omega)
    have hback : 1 - (1 - bankK l.f) = bankK l.f := by omega
    obtain ⟨q1, q2⟩ := fresh_pick (f := l.f) ho (g := (pickS l.f).gen + 1) (seq := (pickS l.f).seq + 1) (d := d) e hz (by omega) (by omega) hd (fun x => by rw [hback, ← hgq]; omega)
    obtain ⟨_, _, _, _, hnx⟩ := fresh_says (z := (l.f.bank (1 - bankK l.f)).size) (g := (pickS l.f).gen + 1) (seq := (pickS l.f).seq + 1) (data := d) hz (by omega) (by omega) hd
    rw [← hv2] at q1 q2 hnx
    obtain ⟨w1, w2⟩ := whole_play h.j hd hp0 (Or.inl (by decide)) (cut := -1) m
    rw [hp, hpl] at w1
    have hJ := (put_ji (s := ⟨d, -1, m⟩) h.j hd hp0).1
    have hg : (putJ l.f ⟨d, -1, m⟩).1 = upd l.f (1 - bankK l.f) v e := by
      unfold putJ
      rw [if_pos hp0]
      show (playR l.f (planR l.f d).1 (-1) m).1 = _
      rw [hp, hpl]
    rw [hg, show n * q + r + 1 + 1 = n * (q + 1) + 0 + 1 from by rw [Nat.mul_add]; omega] at hJ
    have ha := h.a
    have hhb := h.hb
    have he1 := h.e1
    have hu := (upd_other l.f ho v e).2
    rw [hback] at hu
    rw [h.j.slots ho] at hnx
    have hmul : n * (q + 1) + 0 + 1 = n * q + r + 1 + 1 := by rw [Nat.mul_add]; omega
    rw [w1]
    refine ⟨⟨hJ, by omega, ?_, ?_, ?_, ?_, ?_, ?_⟩, rfl⟩
    · show bankK (upd _ _ _ _) = _; rw [q1]; omega
    · show nextF ((upd _ _ _ _).bank (bankK (upd _ _ _ _))) = _; rw [q1, upd_bank, hnx]
      by_cases h1 : n = 1
      · rw [if_pos (by omega), if_pos (by omega)]
      · rw [if_neg (by omega), if_neg (by omega)]
    · show (upd _ _ _ _).erases (bankK (upd _ _ _ _)) = _; rw [q1, upd_erases]; omega
    · show (upd _ _ _ _).erases (1 - bankK (upd _ _ _ _)) = _; rw [q1, hback, hu]; omega
    · show (upd _ _ _ _).lim = _; rw [upd_lim]; exact h.hl
    · show l.acked + 1 = _; rw [hmul]; omega
  · refine play_err ?_
    show (planR l.f d).2 ≠ 0
    unfold planR
    rw [if_neg (by rw [h.j.even]; decide), if_neg (by omega), if_neg (by unfold topN; omega), if_neg (by omega), if_neg (by unfold topN; omega), other_is hb, if_pos (by omega)]
    decide
/-- The first state. -/
theorem first_ei {n most : Nat} (hn : 1 ≤ n ∧ n ≤ 12) (hm : most ≤ 1000) {d : Nat} (hd : d < 18446744073709551616) (m : ByteArray) :
    (0 < most → EI n 0 0 most (playJ (startJ (newF ((24 * n + 24 : Nat) : Int) (most : Int))) ⟨d, -1, m⟩) ∧ (playJ (startJ (newF ((24 * n + 24 : Nat) : Int) (most : Int))) ⟨d, -1, m⟩).last = d) ∧
    (most = 0 → playJ (startJ (newF ((24 * n + 24 : Nat) : Int) (most : Int))) ⟨d, -1, m⟩ = startJ (newF ((24 * n + 24 : Nat) : Int) (most : Int))) := by
  obtain ⟨hJ0, hb, hlim, her⟩ := new_ji hn (lim := (most : Int)) (by omega)
  generalize hf : newF ((24 * n + 24 : Nat) : Int) (most : Int) = f at *
  have e0 : f.e0 = 0 := her 0
  have e1 : f.e1 = 0 := her 1
  refine ⟨fun hm0 => ?_, fun hm0 => ?_⟩
  · have hp : planR f d = (freshL 0 (goodH f 0) 1 1 d, 0) := by
      unfold planR
      rw [if_neg (by rw [hJ0.even]; decide), if_pos hb, if_pos (by omega)]
    have hp0 : (planR f d).2 = 0 := by rw [hp]
    have ho : (0 : Int) = 0 ∨ (0 : Int) = 1 := Or.inl rfl
    obtain ⟨hz, h48⟩ := bank48 hp0 ho
    obtain ⟨v, e, hpl, hv, hee, hw, _⟩ := fresh_play f ho (goodH f 0) 1 1 d h48 (by rw [her]; omega) (-1) m
    obtain ⟨hv2, he2⟩ := hw (by omega)
    have hns := bankG_none.1 (show bankG f.b0 f.b1 < 0 from hb)
    obtain ⟨q1, q2⟩ := fresh_pick (f := f) ho (g := 1) (seq := 1) (d := d) e hz (by decide) (by decide) hd (fun x => absurd (hns.2.symm.trans x) (by decide))
    obtain ⟨_, _, _, _, hnx⟩ := fresh_says (z := (f.bank 0).size) (g := 1) (seq := 1) (data := d) hz (by decide) (by decide) hd
    rw [← hv2] at q1 q2 hnx
    obtain ⟨w1, w2⟩ := whole_play (l := startJ f) hJ0 hd hp0 (Or.inl (by decide)) (cut := -1) m
    rw [show (startJ f).f = f from rfl, hp, hpl] at w1
    have hJ := (put_ji (s := ⟨d, -1, m⟩) hJ0 hd hp0).1
    have hg : (putJ f ⟨d, -1, m⟩).1 = upd f 0 v e := by
      unfold putJ
      rw [if_pos hp0]
      show (playR f (planR f d).1 (-1) m).1 = _
      rw [hp, hpl]
    rw [hg] at hJ
    rw [hJ0.slots ho] at hnx
    have hu := (upd_other f ho v e).2
    rw [w1]
    refine ⟨⟨by rw [Nat.mul_zero]; exact hJ, by omega, ?_, ?_, ?_, ?_, ?_, ?_⟩, rfl⟩
    · show bankK (upd _ _ _ _) = _; rw [q1]; rfl
    · show nextF ((upd _ _ _ _).bank (bankK (upd _ _ _ _))) = _; rw [q1, upd_bank, hnx]
      by_cases h1 : n = 1
      · rw [if_pos (by omega), if_pos (by omega)]
      · rw [if_neg (by omega), if_neg (by omega)]
    · show (upd _ _ _ _).erases (bankK (upd _ _ _ _)) = _; rw [q1, upd_erases, he2, her]; rfl
    · show (upd _ _ _ _).erases (1 - bankK (upd _ _ _ _)) = _; rw [q1, hu, her]; rfl
    · show (upd _ _ _ _).lim = _; rw [upd_lim]; exact hlim
    · show (0 : Int) + 1 = _; rw [Nat.mul_zero]; rfl
  · refine play_err ?_
    show (planR f d).2 ≠ 0
    unfold planR
    rw [if_neg (by rw [hJ0.even]; decide), if_pos hb, if_neg (by omega), if_neg (by omega)]
    decide
end Go.Proofs.YthmpjoiifglbjaaGreat

/- Journals fit; what their steps come to, as the statements ask it; plain laws: no statement is proved here. -/
import Derived.Test.YthmpjoiifglbjaaGreatPlanOps
import Derived.IntWalk
namespace Go.Proofs.YthmpjoiifglbjaaGreat
set_option linter.unusedVariables false

structure Stp.ok (o : Stp) : Prop where
  nd : o.data < 18446744073709551616
  nc : -9223372036854775808 ≤ o.cut ∧ o.cut ≤ 9223372036854775807
  sm : o.mask.size ≤ maxLen
theorem putJ_fit {f : Fl} (h : f.fit) (s : Stp) : (putJ f s).1.fit := by
  unfold putJ; split
  · exact play_fit h _ _ _
  · exact h
theorem playJ_f (l : Lg) (s : Stp) : (playJ l s).f = (putJ l.f s).1 := by
  by_cases h : (planR l.f s.data).2 = 0
  · cases hk : (putJ l.f s).2.1
    · by_cases hs : pickS (putJ l.f s).1 = pickS l.f ∧ pickE (putJ l.f s).1 = pickE l.f
      · rw [play_same h hk hs]
      · rw [play_new h hk hs]
    · rw [play_acked h hk]
  · rw [play_err h, put_err h]
theorem playJ_fit {l : Lg} (h : l.f.fit) (s : Stp) : (playJ l s).f.fit := by rw [playJ_f]; exact putJ_fit h s
theorem runJ_fit : ∀ (r : List Stp) (l : Lg), l.f.fit → (runJ l r).f.fit
  | [], l, h => h
  | s :: r, l, h => runJ_fit r _ (playJ_fit h s)
def wearF (f : Fl) : Int := Go.RowKit.wrap64 (f.e0 + f.e1)
theorem LI.small {n c : Nat} {l : Lg} (h : LI n c l) (hc : c ≤ 1000) : -9223372036854775808 ≤ l.acked ∧ l.acked < 9223372036854775807 := by have := h.a; omega
/-- What is read of a log. -/
theorem LI.flies {n c : Nat} {l : Lg} (h : LI n c l) (hf : l.flying = true) : pickE l.f = 0 ∧ (pickS l.f).data = l.flight := by
  have h0 := h.p.2 (Or.inr hf)
  exact ⟨h0, by rw [h.q h0, if_pos hf]⟩
theorem LI.rests {n c : Nat} {l : Lg} (h : LI n c l) (hf : l.flying = false) (ha : 0 < l.acked) : pickE l.f = 0 ∧ (pickS l.f).data = l.last := by
  have h0 := h.p.2 (Or.inl ha)
  exact ⟨h0, by rw [h.q h0, if_neg (by rw [hf]; decide)]⟩
theorem LI.blank {n c : Nat} {l : Lg} (h : LI n c l) (hf : l.flying = false) (ha : ¬ 0 < l.acked) : pickE l.f ≠ 0 := fun h0 => by
  rcases h.p.1 h0 with x | x
  · exact ha x
  · rw [hf] at x; cases x
/-- A journal that is never cut, behind i states. -/
def EJ (n most i : Nat) (l : Lg) : Prop := (i = 0 ∧ l = startJ (newF ((24 * n + 24 : Nat) : Int) (most : Int))) ∨ ∃ q r, i = n * q + r + 1 ∧ q < 2 * most ∧ EI n q r most l
theorem mul_lt_of {n q r m : Nat} (hr : r < n) (h : n * q + r < m * n) : q < m := by
  rcases Nat.lt_or_ge q m with h1 | h1
  · exact h1
  · have : m * n ≤ q * n := Nat.mul_le_mul_right n h1
    rw [Nat.mul_comm q n] at this; omega
theorem er_div {n q r : Nat} (hr : r < n) : (n * q + r) / n = q := by
  rw [Nat.mul_add_div (by omega), Nat.div_eq_of_lt hr, Nat.add_zero]
theorem er_step {n most i : Nat} {l : Lg} (hn : 1 ≤ n ∧ n ≤ 12) (hm : most ≤ 1000) (h : EJ n most i l) (hi : i ≤ 1000) {d : Nat} (hd : d < 18446744073709551616) :
    (2 * most * n ≤ i → i ≤ 2 * most * n → playJ l ⟨d, -1, ⟨#[]⟩⟩ = l ∧ l.acked = (2 * most * n : Nat)) ∧
    (i < 2 * most * n → EJ n most (i + 1) (playJ l ⟨d, -1, ⟨#[]⟩⟩) ∧ (playJ l ⟨d, -1, ⟨#[]⟩⟩).acked = (i + 1 : Nat) ∧ (playJ l ⟨d, -1, ⟨#[]⟩⟩).last = d ∧ (playJ l ⟨d, -1, ⟨#[]⟩⟩).f.e0 + (playJ l ⟨d, -1, ⟨#[]⟩⟩).f.e1 = (i / n + 1 : Nat)) := by
  rcases h with ⟨rfl, rfl⟩ | ⟨q, r, rfl, hq, hE⟩
  · obtain ⟨f1, f2⟩ := first_ei hn hm hd ⟨#[]⟩
    refine ⟨fun h1 _ => ?_, fun h1 => ?_⟩
    · have h0 : most = 0 := by
        rcases Nat.eq_zero_or_pos most with h | h
        · exact h
        · have : 0 < 2 * most * n := Nat.mul_pos (by omega) (by omega)
          omega
      refine ⟨f2 h0, ?_⟩
      subst h0
      show (0 : Int) = _
      rw [Nat.mul_zero, Nat.zero_mul]; rfl
    · have h0 : 0 < most := by
        rcases Nat.eq_zero_or_pos most with h | h
        · subst h; rw [Nat.mul_zero, Nat.zero_mul] at h1; omega
        · exact h
      obtain ⟨g1, g2⟩ := f1 h0
      have ha := g1.a
      have hw := g1.wear
      rw [Nat.mul_zero] at ha
      refine ⟨Or.inr ⟨0, 0, by rw [Nat.mul_zero], by omega, g1⟩, by rw [ha], g2, ?_⟩
      rw [hw, Nat.zero_div]; rfl
  · have hr := hE.hr
    have hlt : ∀ {a : Nat}, a < 12 * 2001 → n * a ≤ 12 * a := fun _ => Nat.mul_le_mul_right _ hn.2
    have hq2 : q < 2001 := by omega
    have hnq := hlt (a := q) (by omega)
    by_cases hr1 : r + 1 < n
    · obtain ⟨g1, g2⟩ := hE.app (by omega) hr1 hd ⟨#[]⟩
      have ha := g1.a
      have hw := g1.wear
      refine ⟨fun h1 _ => ?_, fun h1 => ⟨Or.inr ⟨q, r + 1, by omega, hq, g1⟩, by rw [ha]; omega, g2, ?_⟩⟩
      · exfalso
        have : n * q + n ≤ 2 * most * n := by
          have h2 : (q + 1) * n ≤ 2 * most * n := Nat.mul_le_mul_right n (by omega)
          rw [Nat.add_mul, Nat.one_mul, Nat.mul_comm q n] at h2; omega
        omega
      · rw [hw, show n * q + r + 1 = n * q + (r + 1) from by omega, er_div hr1]; omega
    · have hrn : r + 1 = n := by omega
      obtain ⟨g1, g2⟩ := hE.next (by omega) hrn hd ⟨#[]⟩
      refine ⟨fun h1 h2 => ?_, fun h1 => ?_⟩
      · have hlt2 : 2 * most ≤ q + 1 := by
          have h3 : 2 * most * n ≤ (q + 1) * n := by rw [Nat.add_mul, Nat.one_mul, Nat.mul_comm q n]; omega
          exact Nat.le_of_mul_le_mul_right h3 (by omega)
        refine ⟨g2 hlt2, ?_⟩
        rw [hE.a]
        have : n * q + r + 1 = 2 * most * n := by omega
        rw [this]
      · have hq3 : q + 1 < 2 * most := by
          refine mul_lt_of (n := n) (r := 0) (by omega) ?_
          rw [Nat.mul_add]; omega
        obtain ⟨k1, k2⟩ := g1 hq3
        have ha := k1.a
        have hw := k1.wear
        have hm1 : n * (q + 1) = n * q + r + 1 := by rw [Nat.mul_add]; omega
        refine ⟨Or.inr ⟨q + 1, 0, by omega, hq3, k1⟩, by rw [ha, hm1], k2, ?_⟩
        rw [hw, ← hm1, show n * (q + 1) = n * (q + 1) + 0 from rfl, er_div (by omega)]; omega
theorem er_start {n most : Nat} : EJ n most 0 (startJ (newF ((24 * n + 24 : Nat) : Int) (most : Int))) := Or.inl ⟨rfl, rfl⟩
/-- Numbers rise. -/
theorem num_step {n c : Nat} {l : Lg} (h : LI n c l) {s : Stp} (hd : s.data < 18446744073709551616) :
    seqN l.f ≤ seqN (playJ l s).f ∧ seqN (playJ l s).f ≤ c + 1 ∧ (pickE (playJ l s).f ≠ 0 → seqN l.f = seqN (playJ l s).f) ∧ (l.acked < (playJ l s).acked → pickE (playJ l s).f = 0 ∧ seqN (playJ l s).f = seqN l.f + 1) := by
  obtain ⟨h1, h2, h3⟩ := play_seq h hd
  refine ⟨h1, (play_li h hd).1.j.seq, fun h0 => ?_, h3⟩
  have hx : pickE l.f ≠ 0 := fun x => h0 (h2 x)
  unfold seqN; rw [if_neg hx, if_neg h0]
/-- Who is worn out stays so. -/
theorem worn_stays {l : Lg} {d : Nat} (h : (planR l.f d).2 ≠ 0) (s : Stp) : playJ l s = l := play_err (by rw [(plan_alike l.f s.data d).1]; exact h)
theorem mk168 {M K : Nat} (h : M < 8) (k : K ≤ 12) : 2 * M * K ≤ 168 := by
  have h2 : 2 * M ≤ 14 := by omega
  exact Nat.mul_le_mul h2 k
theorem er_nums {M K N2 : Nat} {mm kk : Int} (hM : M < 8) (hK : K ≤ 12) (mw : (M : Int) = mm) (kw : (K : Int) = kk) (hN : 2 * M * K = N2) :
    IntKind.i64.wrap (2 * mm) = 2 * mm ∧ IntKind.i64.wrap (2 * mm * kk) = (N2 : Int) := by
  have h2 := mk168 hM hK
  rw [hN] at h2
  subst mw kw
  refine ⟨Go.IntWalk.i64_in _ (by omega), ?_⟩
  have e : 2 * (M : Int) * (K : Int) = (N2 : Int) := by rw [← hN]; simp
  rw [e]; exact Go.IntWalk.i64_in _ (by omega)

def jn0 : List Stp := [⟨7, -1, ⟨#[]⟩⟩, ⟨8, 1, ⟨#[255, 255]⟩⟩]

def jn1 : List Stp := [⟨7, -1, ⟨#[]⟩⟩, ⟨8, 1, ⟨#[]⟩⟩, ⟨9, 0, ⟨#[64]⟩⟩]

def jl0 : Lg := runJ (startJ pn0) jn0

def jl1 : Lg := runJ (startJ pn0) jn1

theorem jl0_is : jl0.acked = 1 ∧ jl0.last = 7 ∧ jl0.flying = true ∧ jl0.flight = 8 ∧ jl0.f.e0 = 1 ∧ jl0.f.e1 = 0 := ⟨by kernel_rfl, by kernel_rfl, by kernel_rfl, by kernel_rfl, by kernel_rfl, by kernel_rfl⟩
theorem jl1_is : jl1.flying = false := by kernel_rfl
theorem jl_read : (pickS jl0.f).data = 8 ∧ pickE jl0.f = 0 ∧ (pickS jl1.f).data = 7 ∧ pickE jl1.f = 0 ∧ pickE pn0 = 10 := ⟨by kernel_rfl, by kernel_rfl, by kernel_rfl, by kernel_rfl, by kernel_rfl⟩
theorem jl_fit : jl0.f.fit ∧ jl1.f.fit := ⟨runJ_fit _ _ pn_ok0, runJ_fit _ _ pn_ok0⟩
theorem jn_ok : (∀ s ∈ jn0, s.ok) ∧ ∀ s ∈ jn1, s.ok := by
  have k : ∀ (d : Nat) (c : Int) (m : ByteArray), d < 10 → -1 ≤ c ∧ c ≤ 1 → m.size ≤ 2 → Stp.ok ⟨d, c, m⟩ := fun d c m h1 h2 h3 => ⟨by show d < _; omega, by show _ ≤ c ∧ c ≤ _; omega, by show m.size ≤ maxLen; unfold maxLen; omega⟩
  constructor
  · intro s hs
    simp only [jn0, List.mem_cons, List.not_mem_nil, or_false] at hs
    rcases hs with rfl | rfl
    · exact k _ _ _ (by decide) (by decide) (by decide)
    · exact k _ _ _ (by decide) (by decide) (by decide)
  · intro s hs
    simp only [jn1, List.mem_cons, List.not_mem_nil, or_false] at hs
    rcases hs with rfl | rfl | rfl
    · exact k _ _ _ (by decide) (by decide) (by decide)
    · exact k _ _ _ (by decide) (by decide) (by decide)
    · exact k _ _ _ (by decide) (by decide) (by decide)
theorem playJ_acked (l : Lg) (s : Stp) : l.acked ≤ (playJ l s).acked ∧ (playJ l s).acked ≤ l.acked + 1 := by
  unfold playJ; split
  · split
    · exact ⟨by show l.acked ≤ l.acked + 1; omega, by show l.acked + 1 ≤ _; omega⟩
    · split <;> exact ⟨Int.le_refl _, by show l.acked ≤ _; omega⟩
  · exact ⟨Int.le_refl _, by omega⟩
theorem runJ_acked : ∀ (r : List Stp) (l : Lg), l.acked ≤ (runJ l r).acked ∧ (runJ l r).acked ≤ l.acked + (r.length : Int)
  | [], l => ⟨Int.le_refl _, by show l.acked ≤ l.acked + ((0 : Nat) : Int); omega⟩
  | s :: r, l => by
    have h1 := runJ_acked r (playJ l s)
    have h2 := playJ_acked l s
    show l.acked ≤ (runJ (playJ l s) r).acked ∧ (runJ (playJ l s) r).acked ≤ l.acked + ((r.length + 1 : Nat) : Int)
    omega
theorem runJ_take {l : List Stp} {j : Nat} {o : Stp} (h : l[j]? = some o) (L : Lg) : runJ L (l.take (j + 1)) = playJ (runJ L (l.take j)) o := by
  rw [List.take_add_one, h]; exact runJ_snoc _ _ _
end Go.Proofs.YthmpjoiifglbjaaGreat

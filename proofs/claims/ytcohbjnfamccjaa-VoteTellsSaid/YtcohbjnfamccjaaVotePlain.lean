/- What a sample says of whether the craft flies, as the document says it, on words of numbers; plain laws: no statement is proved here. -/
import Derived.Test.YtcohbjnfamccjaaFloat
import Derived.WalkKit
namespace Go.Proofs.Ytcohbjnfamccjaa
open Ieee
set_option linter.unusedVariables false
set_option linter.unusedSimpArgs false

structure Smp where
  alt : Nat
  speed : Nat
  thrust : Nat
structure Smp.ok (s : Smp) : Prop where
  a : s.alt < 2 ^ 64
  b : s.speed < 2 ^ 64
  c : s.thrust < 2 ^ 64
def gtF (x c : Nat) : Bool := FloatKind.f64.format.order x c == some .gt
def ltF (x c : Nat) : Bool := FloatKind.f64.format.order x c == some .lt
def nanF (x : Nat) : Bool := FloatKind.f64.format.order x x != some .eq
def w2 : Nat := 4611686018427387904
def w3 : Nat := 4613937818241073152
def wm3 : Nat := 13837309855095848960
def w1 : Nat := 4607182418800017408
def wm1 : Nat := 13830554455654793216
def wq : Nat := 4598175219545276416
def we : Nat := 4593671619917905920
def airN (s : Smp) : Nat := (gtF s.alt w2).toNat + (gtF s.speed w3 || ltF s.speed wm3).toNat + (gtF s.thrust wq).toNat
def groundN (s : Smp) : Nat := (ltF s.alt w1).toNat + (ltF s.speed w1 && gtF s.speed wm1).toNat + (ltF s.thrust we).toNat
def brokenB (s : Smp) : Bool := nanF s.alt || nanF s.speed || nanF s.thrust
def voteN (s : Smp) : Nat := if brokenB s = true then 0 else if 2 ≤ airN s then 2 else if groundN s = 3 then 1 else 0
def turnS (s : Smp) : Smp := ⟨s.alt, Op.negFloat .f64 s.speed, s.thrust⟩

theorem nan_iff (x : Nat) : nanF x = true ↔ ¬ isNum x := ord_self x
theorem nan_no {x : Nat} (h : isNum x) : nanF x = false := by
  cases k : nanF x with
  | false => rfl
  | true => exact absurd h ((nan_iff x).1 k)
theorem num_of {x : Nat} (h : nanF x = false) : isNum x := Classical.not_not.1 (fun k => by rw [(nan_iff x).2 k] at h; cases h)
theorem gt_num {x c : Nat} (hx : isNum x) (hc : isNum c) : gtF x c = decide (fv c < fv x) := ord_gt hx hc
theorem lt_num {x c : Nat} (hx : isNum x) (hc : isNum c) : ltF x c = decide (fv x < fv c) := ord_lt hx hc
theorem gt_nan {x c : Nat} (h : ¬ isNum x) : gtF x c = false := by unfold gtF; rw [show FloatKind.f64.format.order x c = none from order_nan1 h]; rfl
theorem lt_nan {x c : Nat} (h : ¬ isNum x) : ltF x c = false := by unfold ltF; rw [show FloatKind.f64.format.order x c = none from order_nan1 h]; rfl
theorem num2 : isNum w2 := by unfold isNum rungOf infR w2; decide
theorem num3 : isNum w3 := by unfold isNum rungOf infR w3; decide
theorem numm3 : isNum wm3 := by unfold isNum rungOf infR wm3; decide
theorem num1 : isNum w1 := by unfold isNum rungOf infR w1; decide
theorem numm1 : isNum wm1 := by unfold isNum rungOf infR wm1; decide
theorem numq : isNum wq := by unfold isNum rungOf infR wq; decide
theorem nume : isNum we := by unfold isNum rungOf infR we; decide
theorem fv_pos_lt {x y : Nat} (hx : negOf x = false) (hy : negOf y = false) (h : rungOf x < rungOf y) : fv x < fv y := by
  have := mu_lt h
  unfold fv; rw [hx, hy]; unfold sgn; simp only [Bool.false_eq_true, if_false]; omega
theorem fv_neg_lt {x y : Nat} (hx : negOf x = true) (hy : negOf y = true) (h : rungOf y < rungOf x) : fv x < fv y := by
  have := mu_lt h
  unfold fv; rw [hx, hy]; unfold sgn; simp only [if_true]; omega
theorem lt12 : fv w1 < fv w2 := fv_pos_lt (by decide) (by decide) (by decide)
theorem lt13 : fv w1 < fv w3 := fv_pos_lt (by decide) (by decide) (by decide)
theorem ltm31 : fv wm3 < fv wm1 := fv_neg_lt (by decide) (by decide) (by decide)
theorem lteq : fv we < fv wq := fv_pos_lt (by decide) (by decide) (by decide)
theorem ltm0 : fv wm1 < 0 := by
  have := mu_pos (r := rungOf wm1) (by decide)
  unfold fv; rw [show negOf wm1 = true from by decide]; unfold sgn; simp only [if_true]; omega
theorem apart {x a b : Nat} (ha : isNum a) (hb : isNum b) (h : fv b < fv a) : (gtF x a && ltF x b) = false := by
  by_cases hx : isNum x
  · rw [gt_num hx ha, lt_num hx hb]
    by_cases k : fv a < fv x
    · rw [decide_eq_true k, decide_eq_false (by omega : ¬ fv x < fv b)]; rfl
    · rw [decide_eq_false k]; rfl
  · rw [gt_nan hx]; rfl
theorem sides (x : Nat) : ((gtF x w3 || ltF x wm3) && (ltF x w1 && gtF x wm1)) = false := by
  have h1 := apart (x := x) num3 num1 lt13
  have h2 := apart (x := x) numm1 numm3 ltm31
  cases k1 : gtF x w3 <;> cases k2 : ltF x wm3 <;> cases k3 : ltF x w1 <;> cases k4 : gtF x wm1 <;> simp [k1, k2, k3, k4] at h1 h2 ⊢
/-- No sample has a sign of flying, and the like sign of standing, at once. -/
theorem once (s : Smp) : airN s + groundN s ≤ 3 := by
  have h1 := apart (x := s.alt) num2 num1 lt12
  have h2 := sides s.speed
  have h3 := apart (x := s.thrust) numq nume lteq
  unfold airN groundN
  generalize gtF s.alt w2 = a at *
  generalize ltF s.alt w1 = b at *
  generalize (gtF s.speed w3 || ltF s.speed wm3) = c at *
  generalize (ltF s.speed w1 && gtF s.speed wm1) = d at *
  generalize gtF s.thrust wq = e at *
  generalize ltF s.thrust we = f at *
  revert h1 h2 h3
  cases a <;> cases b <;> cases c <;> cases d <;> cases e <;> cases f <;> decide
theorem air_le (s : Smp) : airN s ≤ 3 := by have := once s; omega
theorem ground_le (s : Smp) : groundN s ≤ 3 := by have := once s; omega
theorem vote_two (s : Smp) (h : brokenB s = false) : voteN s = 2 ↔ 2 ≤ airN s := by
  unfold voteN; rw [h, if_neg (by decide)]; by_cases k : 2 ≤ airN s
  · rw [if_pos k]; exact ⟨fun _ => k, fun _ => rfl⟩
  · rw [if_neg k]; by_cases k2 : groundN s = 3
    · rw [if_pos k2]; exact ⟨fun h => by omega, fun h => absurd h k⟩
    · rw [if_neg k2]; exact ⟨fun h => by omega, fun h => absurd h k⟩
theorem vote_one (s : Smp) (h : brokenB s = false) : voteN s = 1 ↔ groundN s = 3 := by
  have ho := once s
  unfold voteN; rw [h, if_neg (by decide)]; by_cases k : 2 ≤ airN s
  · rw [if_pos k]; exact ⟨fun h => by omega, fun h => by omega⟩
  · rw [if_neg k]; by_cases k2 : groundN s = 3
    · rw [if_pos k2]; exact ⟨fun _ => k2, fun _ => rfl⟩
    · rw [if_neg k2]; exact ⟨fun h => by omega, fun h => absurd h k2⟩
theorem vote_le (s : Smp) : voteN s ≤ 2 := by
  unfold voteN; split
  · omega
  · split
    · omega
    · split <;> omega
/-- A number with a fraction that is stored. -/
theorem st_float {P : Program} {a : Addr} {m : Mode} {w : World} (k : FloatKind) (b : Nat) : (store a (.float k b) m).run P w = stored P w a (.float k b) m := run_store P w a _ m rfl
theorem vote_broken {s : Smp} (h : brokenB s = true) : voteN s = 0 := by unfold voteN; rw [if_pos h]
-- turned
theorem opp3 : Op.negFloat .f64 w3 = wm3 := by decide
theorem opp1 : Op.negFloat .f64 w1 = wm1 := by decide
theorem fvm3 : fv wm3 = -fv w3 := by rw [← opp3]; exact fv_opp (by decide)
theorem fvm1 : fv wm1 = -fv w1 := by rw [← opp1]; exact fv_opp (by decide)
theorem turn_gt {x c d : Nat} (h : x < 2 ^ 64) (hc : isNum c) (hd : isNum d) (e : fv d = -fv c) : gtF (Op.negFloat .f64 x) c = ltF x d ∧ ltF (Op.negFloat .f64 x) d = gtF x c := by
  by_cases hx : isNum x
  · have ho := (num_opp h).2 hx
    rw [gt_num ho hc, lt_num hx hd, lt_num ho hd, gt_num hx hc, fv_opp h]
    constructor
    · by_cases k : fv x < fv d
      · rw [decide_eq_true k, decide_eq_true (by omega)]
      · rw [decide_eq_false k, decide_eq_false (by omega)]
    · by_cases k : fv c < fv x
      · rw [decide_eq_true k, decide_eq_true (by omega)]
      · rw [decide_eq_false k, decide_eq_false (by omega)]
  · have ho : ¬ isNum (Op.negFloat .f64 x) := fun k => hx ((num_opp h).1 k)
    rw [gt_nan ho, lt_nan hx, lt_nan ho, gt_nan hx]; exact ⟨rfl, rfl⟩
theorem turn_nan {x : Nat} (h : x < 2 ^ 64) : nanF (Op.negFloat .f64 x) = nanF x := by
  by_cases hx : isNum x
  · rw [nan_no hx, nan_no ((num_opp h).2 hx)]
  · rw [(nan_iff x).2 hx, (nan_iff _).2 (fun k => hx ((num_opp h).1 k))]
theorem turn_air {s : Smp} (h : s.ok) : airN (turnS s) = airN s ∧ groundN (turnS s) = groundN s ∧ brokenB (turnS s) = brokenB s ∧ voteN (turnS s) = voteN s := by
  obtain ⟨t1, t2⟩ := turn_gt h.b num3 numm3 fvm3
  obtain ⟨t3, t4⟩ := turn_gt h.b numm1 num1 (by rw [fvm1]; omega)
  have e1 : airN (turnS s) = airN s := by unfold airN turnS; dsimp only; rw [t1, t2, Bool.or_comm]
  have e2 : groundN (turnS s) = groundN s := by unfold groundN turnS; dsimp only; rw [t4, t3, Bool.and_comm (gtF s.speed wm1)]
  have e3 : brokenB (turnS s) = brokenB s := by unfold brokenB turnS; dsimp only; rw [turn_nan h.b]
  exact ⟨e1, e2, e3, by unfold voteN; rw [e1, e2, e3]⟩
-- more of all
theorem add_inf {x y : Nat} (hx : rungOf x = infR) (hy : rungOf y < infR) : ∃ w, double.add x y = some w ∧ isNum w ∧ w < 2 ^ 64 ∧ fv w = fv x := by
  obtain ⟨m, e, r2, _, _⟩ := read_num hy
  have h := word_of (negOf x) (Nat.le_refl infR)
  unfold Format.add
  rw [read_inf hx, r2]
  unfold Datum.sum
  simp only [Option.map_some, Format.write]
  refine ⟨_, rfl, ?_, ?_, ?_⟩
  · rw [d_inf]; exact h.1
  · rw [d_inf]; exact fword_lt _ infR_lt
  · rw [d_inf, h.2]; unfold fv; rw [hx]
theorem add_up {x y : Nat} (hx : isNum x) (hy : isNum y) (h0 : 0 ≤ fv y) (hf : rungOf y < infR) : ∃ w, double.add x y = some w ∧ isNum w ∧ w < 2 ^ 64 ∧ fv x ≤ fv w := by
  by_cases h : rungOf x < infR
  · obtain ⟨w, e, n⟩ := sum_near h hf
    refine ⟨w, e, n.1, n.2.1, n.2.2.1 x hx ?_⟩
    rw [pw_zero]; omega
  · obtain ⟨w, e, n, l, k⟩ := add_inf (x := x) (by unfold isNum at hx; omega) hf
    exact ⟨w, e, n, l, by omega⟩
/-- Who is higher, faster, and pushes more. -/
theorem higher {s t : Smp} (h1 : isNum s.alt) (h2 : isNum s.speed) (h3 : isNum s.thrust) (k1 : isNum t.alt) (k2 : isNum t.speed) (k3 : isNum t.thrust) (h0 : 0 ≤ fv s.speed) (l1 : fv s.alt ≤ fv t.alt) (l2 : fv s.speed ≤ fv t.speed) (l3 : fv s.thrust ≤ fv t.thrust) :
    (voteN s = 2 → voteN t = 2) ∧ (voteN t = 1 → voteN s = 1) := by
  have b1 : brokenB s = false := by unfold brokenB; rw [nan_no h1, nan_no h2, nan_no h3]; rfl
  have b2 : brokenB t = false := by unfold brokenB; rw [nan_no k1, nan_no k2, nan_no k3]; rfl
  have up : ∀ {x y c : Nat}, isNum x → isNum y → isNum c → fv x ≤ fv y → (gtF x c).toNat ≤ (gtF y c).toNat := fun {x y c} hx hy hc h => by
    rw [gt_num hx hc, gt_num hy hc]
    by_cases k : fv c < fv x
    · rw [decide_eq_true k, decide_eq_true (by omega)]; exact Nat.le_refl _
    · rw [decide_eq_false k]; exact Nat.zero_le _
  have dn : ∀ {x y c : Nat}, isNum x → isNum y → isNum c → fv x ≤ fv y → (ltF y c).toNat ≤ (ltF x c).toNat := fun {x y c} hx hy hc h => by
    rw [lt_num hx hc, lt_num hy hc]
    by_cases k : fv y < fv c
    · rw [decide_eq_true k, decide_eq_true (by omega)]; exact Nat.le_refl _
    · rw [decide_eq_false k]; exact Nat.zero_le _
  have z := ltm0
  have z3 := ltm31
  have e1 : ltF s.speed wm3 = false := by rw [lt_num h2 numm3]; exact decide_eq_false (by omega)
  have e2 : ltF t.speed wm3 = false := by rw [lt_num k2 numm3]; exact decide_eq_false (by omega)
  have e3 : gtF s.speed wm1 = true := by rw [gt_num h2 numm1]; exact decide_eq_true (by omega)
  have e4 : gtF t.speed wm1 = true := by rw [gt_num k2 numm1]; exact decide_eq_true (by omega)
  have ha : airN s ≤ airN t := by
    have a1 := up h1 k1 num2 l1
    have a2 := up h2 k2 num3 l2
    have a3 := up h3 k3 numq l3
    unfold airN; rw [e1, e2, Bool.or_false, Bool.or_false]; omega
  have hg : groundN t ≤ groundN s := by
    have a1 := dn h1 k1 num1 l1
    have a2 := dn h2 k2 num1 l2
    have a3 := dn h3 k3 nume l3
    unfold groundN; rw [e3, e4, Bool.and_true, Bool.and_true]; omega
  refine ⟨fun h => (vote_two t b2).2 (Nat.le_trans ((vote_two s b1).1 h) ha), fun h => (vote_one s b1).2 ?_⟩
  have := (vote_one t b2).1 h
  have := ground_le s
  omega
end Go.Proofs.Ytcohbjnfamccjaa

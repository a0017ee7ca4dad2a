/- Votes that are counted, in plain terms: no statement is proved here. -/
import Derived.Test.YtokfglgghdeakaaInts
namespace Go.Proofs.Ytokfglgghdeakaa
set_option linter.unusedVariables false

/-- A count of votes that agree. -/
structure Ct where
  vote : Int
  n : Int
structure Ct.ok (c : Ct) : Prop where
  rv : -9223372036854775808 ≤ c.vote ∧ c.vote ≤ 9223372036854775807
  rn : -9223372036854775808 ≤ c.n ∧ c.n ≤ 9223372036854775807
def ctV (c : Ct) : List Value := [.int .i64 c.vote, .int .i64 c.n]
def addD (c : Ct) (v : Int) : Ct := if v ≠ 1 ∧ v ≠ 2 then c else if c.vote ≠ v then ⟨v, 1⟩ else if 3 ≤ c.n then ⟨v, 3⟩ else if c.n < 1 then ⟨v, 1⟩ else ⟨v, c.n + 1⟩
def allD (c : Ct) (l : List Int) : Ct := l.foldl addD c
def verD (c : Ct) : Int := if 3 ≤ c.n ∧ (c.vote = 1 ∨ c.vote = 2) then c.vote else 0
/-- A vote that says something. -/
def says (v : Int) : Bool := v == 1 || v == 2
theorem says_iff {v : Int} : says v = true ↔ v = 1 ∨ v = 2 := by unfold says; simp
theorem addD_ok {c : Ct} (h : c.ok) (v : Int) : (addD c v).ok := by
  unfold addD
  split
  · exact h
  · rename_i hv
    have hv2 : v = 1 ∨ v = 2 := by omega
    have r : -9223372036854775808 ≤ v ∧ v ≤ 9223372036854775807 := by omega
    split
    · exact ⟨r, by simp⟩
    · split
      · exact ⟨r, by simp⟩
      · split
        · exact ⟨r, by simp⟩
        · exact ⟨r, ⟨by show _ ≤ c.n + 1; omega, by show c.n + 1 ≤ _; omega⟩⟩
theorem addD_not {c : Ct} {v : Int} (h : says v = false) : addD c v = c := by
  have h2 : ¬ (v = 1 ∨ v = 2) := fun k => by rw [says_iff.2 k] at h; cases h
  unfold addD; rw [if_pos (by omega)]
theorem allD_snoc (c : Ct) (l : List Int) (v : Int) : allD c (l ++ [v]) = addD (allD c l) v := by unfold allD; rw [List.foldl_append]; rfl
theorem allD_take {c : Ct} {l : List Int} {k : Nat} {v : Int} (h : l[k]? = some v) : allD c (l.take (k + 1)) = addD (allD c (l.take k)) v := by
  rw [List.take_add_one, h]; exact allD_snoc _ _ _
theorem allD_ok {c : Ct} (h : c.ok) (l : List Int) : (allD c l).ok := by
  unfold allD
  induction l generalizing c with
  | nil => exact h
  | cons a l ih => exact ih (addD_ok h a)
/-- Of votes that all say something, from none on: what the last ones make (the list backwards). -/
def afD : List Int → Ct
  | [] => ⟨0, 0⟩
  | x :: r => addD (afD r) x
theorem afD_one {x : Int} (hx : x = 1 ∨ x = 2) : afD [x] = ⟨x, 1⟩ := by
  unfold afD afD addD; rw [if_neg (by omega), if_pos (by show (0 : Int) ≠ x; omega)]
theorem afD_head {x : Int} {r : List Int} (h : ∀ y ∈ x :: r, y = 1 ∨ y = 2) : (afD (x :: r)).vote = x ∧ 1 ≤ (afD (x :: r)).n ∧ (afD (x :: r)).n ≤ 3 := by
  have hx := h x (List.mem_cons_self ..)
  show (addD (afD r) x).vote = x ∧ 1 ≤ (addD (afD r) x).n ∧ (addD (afD r) x).n ≤ 3
  unfold addD
  rw [if_neg (by omega)]
  split
  · exact ⟨rfl, by simp, by simp⟩
  · split
    · exact ⟨rfl, by simp, by simp⟩
    · split
      · exact ⟨rfl, by simp, by simp⟩
      · exact ⟨rfl, by show 1 ≤ (afD r).n + 1; omega, by show (afD r).n + 1 ≤ 3; omega⟩
theorem afD_two {x y : Int} {r : List Int} (h : ∀ z ∈ x :: y :: r, z = 1 ∨ z = 2) : (afD (x :: y :: r)).n = if x = y then min 3 ((afD (y :: r)).n + 1) else 1 := by
  have hx := h x (List.mem_cons_self ..)
  obtain ⟨h1, h2, h3⟩ := afD_head (x := y) (r := r) (fun z hz => h z (List.mem_cons_of_mem _ hz))
  show (addD (afD (y :: r)) x).n = _
  unfold addD
  rw [if_neg (by omega), h1]
  by_cases e : x = y
  · subst e
    rw [if_neg (by simp), if_pos rfl]
    split
    · show (3 : Int) = _; omega
    · rw [if_neg (by omega)]; show (afD (x :: r)).n + 1 = _; omega
  · rw [if_pos (fun k => e k.symm), if_neg e]
theorem afD_ver {r : List Int} (h : ∀ z ∈ r, z = 1 ∨ z = 2) : verD (afD r) = match r with | x :: y :: z :: _ => if x = y ∧ y = z then x else 0 | _ => 0 := by
  match r, h with
  | [], _ => rfl
  | [x], h => rw [afD_one (h x (List.mem_cons_self ..))]; exact if_neg (fun k => by have := k.1; simp at this)
  | [x, y], h =>
    have h2 := afD_two h
    rw [afD_one (h y (by simp))] at h2
    exact if_neg (fun k => by
      have := k.1
      rw [h2] at this
      split at this
      · simp at this; omega
      · omega)
  | x :: y :: z :: r, h =>
    have hx := h x (List.mem_cons_self ..)
    have h1 := afD_head h
    have h2 := afD_two h
    have hyr : ∀ w ∈ y :: z :: r, w = 1 ∨ w = 2 := fun w hw => h w (List.mem_cons_of_mem _ hw)
    have h3 := afD_two hyr
    have h4 := afD_head (x := z) (r := r) (fun w hw => hyr w (List.mem_cons_of_mem _ hw))
    have h5 := afD_head hyr
    show verD (afD (x :: y :: z :: r)) = if x = y ∧ y = z then x else 0
    unfold verD
    rw [h1.1, h2, h3]
    by_cases e1 : x = y
    · by_cases e2 : y = z
      · rw [if_pos e1, if_pos e2, if_pos (show x = y ∧ y = z from ⟨e1, e2⟩), if_pos ⟨by omega, hx⟩]
      · rw [if_pos e1, if_neg e2, if_neg (show ¬ (x = y ∧ y = z) from fun k => e2 k.2), if_neg (fun k => by have := k.1; omega)]
    · rw [if_neg e1, if_neg (show ¬ (x = y ∧ y = z) from fun k => e1 k.1), if_neg (fun k => by have := k.1; omega)]
theorem allD_said (l : List Int) : allD ⟨0, 0⟩ l = afD (l.filter says).reverse := by
  have key : ∀ (l : List Int) (r : List Int), allD (afD r) l = afD ((l.filter says).reverse ++ r) := fun l => by
    induction l with
    | nil => intro r; rfl
    | cons a l ih =>
      intro r
      show allD (addD (afD r) a) l = _
      cases hs : says a with
      | false => rw [addD_not hs, List.filter_cons, if_neg (by rw [hs]; decide)]; exact ih r
      | true =>
        rw [List.filter_cons, if_pos hs, List.reverse_cons, List.append_assoc, List.singleton_append, ← ih (a :: r)]
        rfl
  have h := key l []
  rwa [List.append_nil] at h
/-- There is a verdict just if the last three that say something say the same. -/
theorem agreesD {l s : List Int} (hs : l.filter says = s) : (∀ x y z : Int, 3 ≤ s.length → s[s.length - 1]? = some x → s[s.length - 2]? = some y → s[s.length - 3]? = some z → verD (allD ⟨0, 0⟩ l) = if x = y ∧ y = z then x else 0) ∧ (s.length < 3 → verD (allD ⟨0, 0⟩ l) = 0) := by
  have hm : ∀ z ∈ s.reverse, z = 1 ∨ z = 2 := fun z hz => by
    rw [← hs, List.mem_reverse, List.mem_filter] at hz
    exact says_iff.1 hz.2
  have hv := afD_ver hm
  have hv := hv
  rw [allD_said, hs]
  have hl : s.reverse.length = s.length := List.length_reverse
  have hg : ∀ i, i < s.length → s[s.length - 1 - i]? = s.reverse[i]? := fun i hi => (List.getElem?_reverse hi).symm
  generalize s.reverse = q at *
  constructor
  · intro x y z h3 hx hy hz
    rcases q with _ | ⟨a, _ | ⟨b, _ | ⟨c, r⟩⟩⟩
    · simp at hl; omega
    · simp at hl; omega
    · simp at hl; omega
    · have g0 := hg 0 (by omega)
      have g1 := hg 1 (by omega)
      have g2 := hg 2 (by omega)
      rw [show s.length - 1 - 0 = s.length - 1 from rfl, hx] at g0
      rw [show s.length - 1 - 1 = s.length - 2 from by omega, hy] at g1
      rw [show s.length - 1 - 2 = s.length - 3 from by omega, hz] at g2
      cases g0; cases g1; cases g2
      exact hv
  · intro h3
    rcases q with _ | ⟨a, _ | ⟨b, _ | ⟨c, r⟩⟩⟩
    · exact hv
    · exact hv
    · exact hv
    · simp at hl; omega
/-- Votes that agree, k of them. -/
theorem rep_ver (c : Ct) {v : Int} (hv : v = 1 ∨ v = 2) : ∀ k : Nat, (3 ≤ k → verD (allD c (List.replicate k v)) = v) ∧ (k < 3 → verD (allD c (List.replicate k v)) ≠ v ∨ c.vote = v) := by
  have one : ∀ d : Ct, (addD d v).vote = v ∧ (d.vote = v → 3 ≤ d.n → 3 ≤ (addD d v).n) ∧ (d.vote = v → 1 ≤ d.n → d.n + 1 ≤ (addD d v).n ∨ 3 ≤ (addD d v).n) ∧ 1 ≤ (addD d v).n ∧ (d.vote ≠ v → (addD d v).n = 1) ∧ (d.vote = v → d.n < 2 → (addD d v).n ≤ 2) := fun d => by
    unfold addD
    rw [if_neg (by omega)]
    split
    · rename_i h; exact ⟨rfl, fun k => absurd k h, fun k => absurd k h, by simp, fun _ => rfl, fun k => absurd k h⟩
    · rename_i h
      have hd : d.vote = v := Classical.not_not.1 h
      split
      · exact ⟨rfl, fun _ _ => by simp, fun _ _ => Or.inr (by simp), by simp, fun k => absurd hd k, fun _ k => by omega⟩
      · split
        · exact ⟨rfl, fun _ k => by omega, fun _ k => by omega, by simp, fun k => absurd hd k, fun _ _ => by simp⟩
        · exact ⟨rfl, fun _ k => by omega, fun _ k => Or.inl (Int.le_refl _), by show 1 ≤ d.n + 1; omega, fun k => absurd hd k, fun _ k => by show d.n + 1 ≤ 2; omega⟩
  have st : ∀ k, allD c (List.replicate (k + 1) v) = addD (allD c (List.replicate k v)) v := fun k => by rw [List.replicate_succ']; exact allD_snoc _ _ _
  have big : ∀ k, (allD c (List.replicate (k + 3) v)).vote = v ∧ 3 ≤ (allD c (List.replicate (k + 3) v)).n := fun k => by
    induction k with
    | zero =>
      have o1 := one (allD c (List.replicate 0 v)); rw [← st, show 0 + 1 = 1 from rfl] at o1
      have o2 := one (allD c (List.replicate 1 v)); rw [← st, show 1 + 1 = 2 from rfl] at o2
      have o3 := one (allD c (List.replicate 2 v)); rw [← st, show 2 + 1 = 3 from rfl] at o3
      refine ⟨o3.1, ?_⟩
      have a1 := o1.2.2.2.1
      have a2 := o2.2.2.1 o1.1 a1
      have a3 := o3.2.2.1 o2.1 o2.2.2.2.1
      have a4 := o3.2.1 o2.1
      rw [show 0 + 3 = 3 from rfl]
      rcases a2 with a2 | a2
      · rcases a3 with a3 | a3 <;> omega
      · exact a4 a2
    | succ k ih =>
      have o := one (allD c (List.replicate (k + 3) v)); rw [← st] at o
      exact ⟨o.1, o.2.1 ih.1 ih.2⟩
  intro k
  constructor
  · intro h
    obtain ⟨j, rfl⟩ : ∃ j, k = j + 3 := ⟨k - 3, by omega⟩
    obtain ⟨h1, h2⟩ := big j
    unfold verD; rw [if_pos ⟨h2, by rw [h1]; exact hv⟩, h1]
  · intro h
    by_cases hc : c.vote = v
    · exact Or.inr hc
    · refine Or.inl ?_
      have o1 := one (allD c (List.replicate 0 v)); rw [← st, show 0 + 1 = 1 from rfl] at o1
      have o2 := one (allD c (List.replicate 1 v)); rw [← st, show 1 + 1 = 2 from rfl] at o2
      have b1 := o1.2.2.2.2.1 hc
      have b2 := o2.2.2.2.2.2 o1.1 (by omega)
      have z : ∀ d : Ct, d.n ≤ 2 → verD d ≠ v := fun d hd => by unfold verD; rw [if_neg (fun k => by have := k.1; omega)]; omega
      match k, h with
      | 0, _ => unfold verD; split
                · exact hc
                · omega
      | 1, _ => exact z _ (by omega)
      | 2, _ => exact z _ b2
/-- A verdict stays till the other thing is said; then there is none of that, till it was said three times. -/
def stayI (v : Int) (c : Ct) (t : Nat) : Prop := (t = 0 ∧ c.vote = v ∧ 3 ≤ c.n) ∨ (0 < t ∧ (c.vote = v ∨ (c.vote = 3 - v ∧ c.n ≤ t)))
theorem ver_parts {c : Ct} {v : Int} (h : verD c = v) (h0 : v ≠ 0) : (v = 1 ∨ v = 2) ∧ c.vote = v ∧ 3 ≤ c.n := by
  unfold verD at h
  split at h
  · rename_i k; exact ⟨by omega, h, k.1⟩
  · omega
theorem stay_step {v x : Int} {c : Ct} {t : Nat} (hv : v = 1 ∨ v = 2) (h : stayI v c t) : stayI v (addD c x) (if x = 3 - v then t + 1 else t) := by
  by_cases hx : x = 3 - v
  · rw [if_pos hx]
    refine Or.inr ⟨by omega, Or.inr ?_⟩
    unfold addD
    rw [if_neg (by omega)]
    split
    · exact ⟨hx, by show (1 : Int) ≤ _; omega⟩
    · rename_i h1
      have h2 : c.vote = x := Classical.not_not.1 h1
      have hn : c.n ≤ t := by
        rcases h with ⟨_, a, _⟩ | ⟨_, a | a⟩
        · omega
        · omega
        · exact a.2
      split
      · exact ⟨hx, by show (3 : Int) ≤ _; omega⟩
      · split
        · exact ⟨hx, by show (1 : Int) ≤ _; omega⟩
        · exact ⟨hx, by show c.n + 1 ≤ _; omega⟩
  · rw [if_neg hx]
    by_cases hn : x ≠ 1 ∧ x ≠ 2
    · have e : addD c x = c := if_pos hn
      rw [e]; exact h
    · have hxv : x = v := by omega
      have hvt : (addD c x).vote = v := by
        unfold addD
        rw [if_neg hn]
        split
        · exact hxv
        · split
          · exact hxv
          · split
            · exact hxv
            · exact hxv
      rcases h with ⟨h0, h1, h2⟩ | ⟨h0, _⟩
      · refine Or.inl ⟨h0, hvt, ?_⟩
        unfold addD
        rw [if_neg hn, if_neg (by rw [h1, hxv]; simp), if_pos h2]
        show (3 : Int) ≤ 3; omega
      · exact Or.inr ⟨h0, Or.inl hvt⟩
theorem stay_ver {v : Int} {c : Ct} {t : Nat} (hv : v = 1 ∨ v = 2) (h : stayI v c t) : (t = 0 → verD c = v) ∧ (0 < t → t < 3 → verD c ≠ 3 - v) := by
  constructor
  · intro h0
    rcases h with ⟨_, h1, h2⟩ | ⟨h1, _⟩
    · unfold verD; rw [if_pos ⟨h2, by rw [h1]; exact hv⟩, h1]
    · omega
  · intro h0 h3
    unfold verD
    split
    · rename_i k
      rcases h with ⟨h1, _⟩ | ⟨_, h1 | h1⟩
      · omega
      · rw [h1]; omega
      · omega
    · omega
end Go.Proofs.Ytokfglgghdeakaa

/- A region that draws its order, by what each of its operations hands on (no order is looked at); a map that is made within a call. No statement is proved here. -/
import Derived.Test.YtdfacpppmfoiiaaBs
import Derived.Test.YtdfacpppmfoiiaaIntsAt
import Derived.Maps.OwnSet
import Derived.Carry
namespace Go.Proofs.Ytdfacpppmfoiiaa
open Go.RowKit
open Go.Maps (Keyed)
set_option linter.unusedVariables false

/-- Does o wait for the operation number j? -/
def dep (o : Oper) (j : Nat) : Bool := o.after.toList.any fun e => Region.binds .any e && e.on == j
/-- Does the operation number j wait for the one number i? -/
def depB (ops : Array Oper) (j i : Nat) : Bool := ((ops[j]?).map fun o => dep o i).getD false

section
variable {P : Program} {ops : Array Oper} {Q : Exit → Act → World → Prop}

theorem ready_iff {listed : Array Bool} {i : Nat} : i ∈ Region.ready .any ops listed ↔ ∃ o, ops[i]? = some o ∧ listed.getD i true = false ∧ ∀ e ∈ o.after, Region.binds .any e = true → listed.getD e.on false = true := by
  unfold Region.ready
  rw [List.mem_filter, List.mem_range]
  constructor
  · rintro ⟨hi, h⟩
    have ho : ops[i]? = some ops[i] := Array.getElem?_eq_getElem hi
    rw [ho] at h
    simp only [Option.map_some, Option.getD_some, Bool.and_eq_true, Bool.not_eq_true', Array.all_eq_true_iff_forall_mem] at h
    refine ⟨_, ho, h.1, fun e he hb => ?_⟩
    have := h.2 e he
    rw [hb] at this
    simpa using this
  · rintro ⟨o, ho, hl, h⟩
    refine ⟨(Array.getElem?_eq_some_iff.1 ho).1, ?_⟩
    rw [ho]
    simp only [Option.map_some, Option.getD_some, Bool.and_eq_true, Bool.not_eq_true', Array.all_eq_true_iff_forall_mem]
    refine ⟨hl, fun e he => ?_⟩
    cases hb : Region.binds .any e with
    | false => rfl
    | true => rw [h e he hb]; rfl

/-- Each operation comes behind those that it waits for. -/
def laidUp (ops : Array Oper) : Bool := (List.range ops.size).all fun i => ((ops[i]?).map fun o => o.after.toList.all fun e => !Region.binds .any e || decide (e.on < i)).getD true

theorem all_listed (hl : laidUp ops = true) {listed : Array Bool} (hs : listed.size = ops.size) (hr : Region.ready .any ops listed = []) : ∀ j, j < ops.size → listed.getD j false = true := by
  intro j
  induction j using Nat.strongRecOn with
  | ind j ih =>
    intro hj
    have ho : ops[j]? = some ops[j] := Array.getElem?_eq_getElem hj
    cases hb : listed.getD j false with
    | true => rfl
    | false =>
      exfalso
      have hm : j ∈ Region.ready .any ops listed := by
        refine ready_iff.2 ⟨_, ho, ?_, fun e he hbe => ?_⟩
        · have hj2 : j < listed.size := by omega
          simp only [Array.getD_eq_getD_getElem?, Array.getElem?_eq_getElem hj2, Option.getD_some] at hb ⊢
          exact hb
        · unfold laidUp at hl
          have h1 := List.all_eq_true.1 hl j (List.mem_range.2 hj)
          rw [ho] at h1
          simp only [Option.map_some, Option.getD_some] at h1
          have h2 := List.all_eq_true.1 h1 e (Array.mem_toList_iff.2 he)
          rw [hbe] at h2
          have h3 : e.on < j := by simpa using h2
          exact ih e.on h3 (by omega)
      rw [hr] at hm
      cases hm

/-- Each operation that comes up leaves what all the others have handed on: so the order is nothing. -/
theorem wpAny_free (J : Nat → Act → World → Prop) (F : Nat → Act → World → Prop) (hl : laidUp ops = true)
    (step : ∀ i o, ops[i]? = some o → ∀ n a w, J (n + 1) a w → (∀ e ∈ o.after, Region.binds .any e = true → F e.on a w) → wpOp P ops Q i (fun a' w' => J n a' w' ∧ F i a' w' ∧ ∀ j, j ≠ i → depB ops j i = false → F j a w → F j a' w') a w)
    (done : ∀ n a w, J n a w → (∀ j, j < ops.size → F j a w) → Q .normal a w) :
    ∀ n (listed : Array Bool) a w, listed.size = ops.size → listed.toList.count false ≤ n → J n a w → (∀ j, listed.getD j false = true → F j a w) → (∀ j o, listed.getD j false = true → ops[j]? = some o → ∀ e ∈ o.after, Region.binds .any e = true → listed.getD e.on false = true) → wpAny P .any ops Q n listed a w := by
  intro n
  induction n with
  | zero =>
    intro listed a w hs hc hJ hF hcl
    have hr : Region.ready .any ops listed = [] := by
      refine List.eq_nil_iff_forall_not_mem.2 (fun i hi => ?_)
      obtain ⟨o, ho, h1, _⟩ := ready_iff.1 hi
      have hi2 : i < listed.size := by have := (Array.getElem?_eq_some_iff.1 ho).1; omega
      simp only [Array.getD_eq_getD_getElem?, Array.getElem?_eq_getElem hi2, Option.getD_some] at h1
      have hm : false ∈ listed.toList := by rw [← h1]; simp
      have := List.count_pos_iff.2 hm
      omega
    exact ⟨hr, done 0 a w hJ (fun j hj => hF j (all_listed hl hs hr j hj))⟩
  | succ n ih =>
    intro listed a w hs hc hJ hF hcl
    refine ⟨fun hr => done _ a w hJ (fun j hj => hF j (all_listed hl hs hr j hj)), fun i hi => ?_⟩
    obtain ⟨o, ho, h1, h2⟩ := ready_iff.1 hi
    have hi2 : i < listed.size := by have := (Array.getElem?_eq_some_iff.1 ho).1; omega
    refine wpOp_mono (fun a' w' h => ?_) (step i o ho n a w hJ (fun e he hb => hF e.on (h2 e he hb)))
    obtain ⟨g1, g2, g3⟩ := h
    have h1f : listed.getD i false = false := by
      simp only [Array.getD_eq_getD_getElem?, Array.getElem?_eq_getElem hi2, Option.getD_some] at h1 ⊢; exact h1
    have hset : ∀ j, (listed.setIfInBounds i true).getD j false = true → j ≠ i → listed.getD j false = true := fun j hj e => by
      rw [← hj]
      simp only [Array.getD_eq_getD_getElem?, Array.getElem?_setIfInBounds]
      rw [if_neg (fun k => e k.symm)]
    have hset2 : ∀ j, listed.getD j false = true → (listed.setIfInBounds i true).getD j false = true := fun j hj => by
      simp only [Array.getD_eq_getD_getElem?, Array.getElem?_setIfInBounds] at hj ⊢
      split
      · rename_i e; subst e; first | rfl | (rw [if_pos hi2]; rfl)
      · exact hj
    simp only [Array.getD_eq_getD_getElem?, Array.getElem?_eq_getElem hi2, Option.getD_some] at h1
    refine ih _ a' w' (by simpa using hs) ?_ g1 (fun j hj => ?_) (fun j o' hj ho' e he hb => ?_)
    · rw [Array.toList_setIfInBounds, List.count_set (by simpa using hi2)]
      have hm : false ∈ listed.toList := by rw [← h1]; simp
      have hp := List.count_pos_iff.2 hm
      have e1 : listed.toList[i]'(by simpa using hi2) = false := by simpa using h1
      rw [e1]
      show listed.toList.count false - 1 + 0 ≤ n
      omega
    · by_cases e : j = i
      · subst e; exact g2
      · have hj2 := hset j hj e
        refine g3 j e ?_ (hF j hj2)
        cases hd : depB ops j i with
        | false => rfl
        | true =>
          exfalso
          unfold depB at hd
          cases hoj : ops[j]? with
          | none => rw [hoj] at hd; cases hd
          | some o' =>
            rw [hoj] at hd
            simp only [Option.map_some, Option.getD_some] at hd
            obtain ⟨x, hx0, hx1⟩ := List.any_eq_true.1 hd
            simp only [Bool.and_eq_true, beq_iff_eq] at hx1
            have := hcl j o' hj2 hoj x (Array.mem_toList_iff.1 hx0) hx1.1
            rw [hx1.2, h1f] at this
            cases this
    · by_cases ej : j = i
      · subst ej
        rw [ho] at ho'
        cases ho'
        exact hset2 _ (h2 e he hb)
      · exact hset2 _ (hcl j o' (hset j hj ej) ho' e he hb)
end

/-- An element of a map that is made within a call: the value itself. -/
def RV (v : Value) : Option (DataW Value × List MemPlace) := some (.held v, [])

theorem ownsMap_one {P : Program} {K : TypeId} {w : World} {b n n' : Nat} {D D' : DataW Value} (h : w.ownsMap P K RV b n D) (h' : w.ownsMap P K RV b n' D') : D = D' := by
  obtain ⟨es, c, hb, _, _, rfl⟩ := h
  obtain ⟨es', c', hb', _, _, rfl⟩ := h'
  rw [hb] at hb'
  cases hb'
  rfl

/-- What an operation hands on. -/
inductive Fk
  | val (c : Bool) (d : Nat) (v : Value)
  | sl (d : Nat) (l : List Int)
  | mp (d : Nat)
  | eq (d x : Nat)
  | ins (m s : Nat) (k : Int)
  | no
def Fk.is (P : Program) (K : TypeId) : Fk → (Operand → Value) → World → Prop
  | .val c d v, ρ, w => c = true → ρ (.tmp d) = v
  | .sl d l, ρ, w => ∃ g, ρ (.tmp d) = .slice (some ⟨g, 0, none⟩) l.length l.length ∧ IntsAt w (some ⟨g, 0, none⟩) l
  | .mp d, ρ, w => ∃ b, ρ (.tmp d) = .map (some b)
  | .eq d x, ρ, w => ρ (.tmp d) = ρ (.tmp x)
  | .ins m s k, ρ, w => ∃ b n D, ρ (.tmp m) = .map (some b) ∧ w.ownsMap P K RV b n D ∧ ∀ z, D.atKey (.int .i64 k) z = .held (ρ (.tmp s))
  | .no, ρ, w => True
def Fk.on : Fk → Nat → Bool
  | .val _ d _, x => d == x
  | .sl d _, x => d == x
  | .mp d, x => d == x
  | .eq d y, x => d == x || y == x
  | .ins m s _, x => m == x || s == x
  | .no, _ => false
def Fk.isMp : Fk → Bool | .mp _ => true | _ => false
/-- No other insert at this key, and all inserts are into the map of slot m. -/
def Fk.other (m : Nat) (k : Int) : Fk → Bool | .ins m' _ k' => m' == m && k' != k | _ => true

theorem eval_put_ne (a : Act) {x d : Nat} (v : Value) (h : x ≠ d) : (a.put (some d) v).eval (.tmp x) = a.eval (.tmp x) := by
  simp only [Act.eval, Act.put, Array.getD_eq_getD_getElem?, Array.getElem?_setIfInBounds]
  rw [if_neg (fun k => h k.symm)]
theorem eval_put (a : Act) {d : Nat} (v : Value) (h : d < a.tmps.size) : (a.put (some d) v).eval (.tmp d) = v := by
  simp only [Act.eval, Act.put, Array.getD_eq_getD_getElem?, Array.getElem?_setIfInBounds]
  simp [h]
theorem defers_put (a : Act) (d : Option Nat) (v : Value) : (a.put d v).defers = a.defers := by cases d <;> rfl
theorem size_put (a : Act) (d : Option Nat) (v : Value) : (a.put d v).tmps.size = a.tmps.size := by cases d <;> simp [Act.put]

section
variable {P : Program} {K : TypeId}
theorem grown_of {w w' : World} (k : Below w.heap.size w w') : w.grownBy w' none := ⟨k.os, k.tape, k.output, k.size, fun j hj _ => k.block j hj⟩
theorem Fk.kept {f : Fk} {a a' : Act} {w w' : World} (h : f.is P K a.eval w) (k : Below w.heap.size w w') (hd : ∀ x, f.on x = true → a'.eval (.tmp x) = a.eval (.tmp x)) : f.is P K a'.eval w' := by
  cases f with
  | val c d v => exact fun hc => (hd d (by simp [Fk.on])).trans (h hc)
  | sl d l => obtain ⟨g, h1, h2⟩ := h; exact ⟨g, (hd d (by simp [Fk.on])).trans h1, h2.seq k⟩
  | mp d => obtain ⟨b, h1⟩ := h; exact ⟨b, (hd d (by simp [Fk.on])).trans h1⟩
  | eq d x => exact ((hd d (by simp [Fk.on])).trans h).trans (hd x (by simp [Fk.on])).symm
  | ins m s kk =>
    obtain ⟨b, n, D, h1, h2, h3⟩ := h
    refine ⟨b, n, D, (hd m (by simp [Fk.on])).trans h1, h2.kept (grown_of k) (by simp), ?_⟩
    rw [hd s (by simp [Fk.on])]; exact h3
  | no => trivial
theorem ints_mapped {w w' : World} {b : Nat} {g : Option Addr} {l : List Int} (h : IntsAt w g l) (k : w.grownBy w' (some b)) (hb : ∃ es c, w.heap[b]? = some (.map es c)) : IntsAt w' g l := fun hn => by
  obtain ⟨x, off, e, hx, hc⟩ := h hn
  refine ⟨x, off, e, Nat.lt_of_lt_of_le hx k.size, fun i v hv => ?_⟩
  have h0 := hc i v hv
  have hne : x ≠ b := fun e2 => by
    obtain ⟨es, c, h1⟩ := hb
    subst e2
    unfold World.cell? at h0
    simp [h1] at h0
  rw [← h0]
  exact World.cell?_of_block (k.block x hx (fun e2 => hne (Option.some.inj e2)))
theorem Fk.kept_map {f : Fk} {a : Act} {w w' : World} {m b n : Nat} {D : DataW Value} {k : Int} {d : DataW Value} (hf : f.other m k = true) (hm : a.eval (.tmp m) = .map (some b)) (hD : w.ownsMap P K RV b n D) (h : f.is P K a.eval w)
    (g : w.grownBy w' (some b)) (hD' : w'.ownsMap P K RV b (n + 1) (D.put (.int .i64 k) d)) : f.is P K a.eval w' := by
  cases f with
  | val c d v => exact h
  | sl d l =>
    obtain ⟨x, h1, h2⟩ := h
    obtain ⟨es, c, hb, _⟩ := hD
    exact ⟨x, h1, ints_mapped h2 g ⟨es, c, hb⟩⟩
  | mp d => exact h
  | eq d x => exact h
  | ins m2 s kk =>
    obtain ⟨b2, n2, D2, h1, h2, h3⟩ := h
    simp only [Fk.other, Bool.and_eq_true, beq_iff_eq, bne_iff_ne] at hf
    obtain ⟨rfl, hk⟩ := hf
    rw [hm] at h1
    cases h1
    have e := ownsMap_one h2 hD
    subst e
    refine ⟨b, n + 1, _, hm, hD', fun z => ?_⟩
    rw [Maps.atKey_put_other (fun e => hk (by injection e))]
    exact h3 z
  | no => trivial

/-- What holds all along: the walk's own blocks, the slots that it only reads, the map that is filled. -/
structure FJ (P : Program) (K : TypeId) (W : World) (L : Bl) (m S N : Nat) (B : List (Nat × Value)) (KS : List Int) (n : Nat) (a : Act) (w : World) : Prop where
  st : Bs W w L
  sz : a.tmps.size = S
  df : a.defers = []
  le : n ≤ N
  base : ∀ p ∈ B, a.eval (.tmp p.1) = p.2
  mp : ∀ b, a.eval (.tmp m) = .map (some b) → ∃ k D, k + n ≤ N ∧ W.heap.size ≤ b ∧ w.ownsMap P K RV b k D ∧ ∀ x, x ∉ KS → Maps.has D (.int .i64 x) = false

variable {ops : Array Oper} {Q : Exit → Act → World → Prop} {W : World} {L : Bl} {m S N : Nat} {B : List (Nat × Value)} {KS : List Int} {F : List Fk}

abbrev Fat (F : List Fk) (i : Nat) : Fk := F.getD i .no
/-- No operation writes a slot of which another one's fact speaks. -/
def apartB (ops : Array Oper) (F : List Fk) (B : List Nat) (m S : Nat) : Bool :=
  (List.range ops.size).all fun i => match (ops[i]?).bind (·.dst) with
    | none => true
    | some d => !B.contains d && (d != m || (Fat F i).isMp) && decide (d < S) && (List.range ops.size).all fun j => j == i || depB ops j i || !(Fat F j).on d
def StepAt (P : Program) (K : TypeId) (ops : Array Oper) (Q : Exit → Act → World → Prop) (W : World) (L : Bl) (m S N : Nat) (B : List (Nat × Value)) (KS : List Int) (F : List Fk) (i : Nat) (o : Oper) : Prop :=
  ∀ n a w, FJ P K W L m S N B KS (n + 1) a w → (∀ j, dep o j = true → (Fat F j).is P K a.eval w) →
    if Region.wanted o (yielded ops a.tmps) = true then Oper.wp P o a w (fun a' w' => FJ P K W L m S N B KS n a' w' ∧ (Fat F i).is P K a'.eval w' ∧ ∀ j, j ≠ i → depB ops j i = false → j < ops.size → (Fat F j).is P K a.eval w → (Fat F j).is P K a'.eval w') Q
    else (FJ P K W L m S N B KS n (a.put o.dst undef) w ∧ (Fat F i).is P K (a.put o.dst undef).eval w ∧ ∀ j, j ≠ i → depB ops j i = false → j < ops.size → (Fat F j).is P K a.eval w → (Fat F j).is P K (a.put o.dst undef).eval w)
def Steps (P : Program) (K : TypeId) (ops : Array Oper) (Q : Exit → Act → World → Prop) (W : World) (L : Bl) (m S N : Nat) (B : List (Nat × Value)) (KS : List Int) (F : List Fk) : Nat → List Oper → Prop
  | _, [] => True
  | i, o :: r => (ops[i]? = some o → StepAt P K ops Q W L m S N B KS F i o) ∧ Steps P K ops Q W L m S N B KS F (i + 1) r
theorem Steps.cons {i : Nat} {o : Oper} {r : List Oper} (h : ops[i]? = some o → StepAt P K ops Q W L m S N B KS F i o) (hr : Steps P K ops Q W L m S N B KS F (i + 1) r) : Steps P K ops Q W L m S N B KS F i (o :: r) := ⟨h, hr⟩
theorem Steps.at : ∀ {l : List Oper} {k : Nat}, Steps P K ops Q W L m S N B KS F k l → ∀ {i : Nat} {o : Oper}, l[i]? = some o → ops[k + i]? = some o → StepAt P K ops Q W L m S N B KS F (k + i) o
  | [], _, _, i, o, h, _ => by simp at h
  | x :: r, k, hs, 0, o, h, ho => by
    have e : x = o := by simpa using h
    subst e; exact hs.1 ho
  | x :: r, k, hs, i + 1, o, h, ho => by
    have hk : k + 1 + i = k + (i + 1) := by omega
    have e := Steps.at hs.2 (i := i) (o := o) (by simpa using h) (by rw [hk]; exact ho)
    rwa [hk] at e
theorem apart_at (h : apartB ops F (B.map (·.1)) m S = true) {i d : Nat} {o : Oper} (ho : ops[i]? = some o) (hd : o.dst = some d) : (∀ p ∈ B, p.1 ≠ d) ∧ (d ≠ m ∨ (Fat F i).isMp = true) ∧ d < S ∧ ∀ j, j ≠ i → depB ops j i = false → j < ops.size → ∀ x, (Fat F j).on x = true → x ≠ d := by
  unfold apartB at h
  have hi : i < ops.size := (Array.getElem?_eq_some_iff.1 ho).1
  have h1 := List.all_eq_true.1 h i (List.mem_range.2 hi)
  rw [ho] at h1
  simp only [Option.bind_some, hd, Bool.and_eq_true, Bool.not_eq_true', Bool.or_eq_true, bne_iff_ne, decide_eq_true_eq] at h1
  obtain ⟨⟨⟨h1, h2⟩, h3⟩, h4⟩ := h1
  refine ⟨fun p hp e => ?_, h2, h3, fun j hj hdj hjs x hx e => ?_⟩
  · have : (B.map (·.1)).contains d = true := by rw [List.contains_iff_mem]; exact List.mem_map.2 ⟨p, hp, e⟩
    rw [this] at h1; cases h1
  · have h5 := List.all_eq_true.1 h4 j (List.mem_range.2 hjs)
    subst e
    rw [hx, hdj] at h5
    simp at h5
    exact hj h5

/-- Behind an operation that is no store into the map. -/
theorem kont (hap : apartB ops F (B.map (·.1)) m S = true) {i n : Nat} {o : Oper} (ho : ops[i]? = some o) {a : Act} {w w' : World} {v : Value} (hJ : FJ P K W L m S N B KS (n + 1) a w) (k : Below w.heap.size w w') (hm : ∀ d, o.dst = some d → d ≠ m)
    (hF : (Fat F i).is P K (a.put o.dst v).eval w') : FJ P K W L m S N B KS n (a.put o.dst v) w' ∧ (Fat F i).is P K (a.put o.dst v).eval w' ∧ ∀ j, j ≠ i → depB ops j i = false → j < ops.size → (Fat F j).is P K a.eval w → (Fat F j).is P K (a.put o.dst v).eval w' := by
  have he : ∀ x, (∀ d, o.dst = some d → x ≠ d) → (a.put o.dst v).eval (.tmp x) = a.eval (.tmp x) := fun x hx => by
    cases hd : o.dst with
    | none => rfl
    | some d => exact eval_put_ne a v (hx d hd)
  refine ⟨⟨hJ.st.seq k, (size_put _ _ _).trans hJ.sz, (defers_put _ _ _).trans hJ.df, by have := hJ.le; omega, fun p hp => ?_, fun b hb => ?_⟩, hF, fun j hj hdj hjs h => Fk.kept h k (fun x hx => he x (fun d hd => (apart_at hap ho hd).2.2.2 j hj hdj hjs x hx))⟩
  · rw [he p.1 (fun d hd => (apart_at hap ho hd).1 p hp)]; exact hJ.base p hp
  · rw [he m (fun d hd => (hm d hd).symm)] at hb
    obtain ⟨k', D, h1, h2, h3, h4⟩ := hJ.mp b hb
    exact ⟨k', D, by omega, h2, h3.kept (grown_of k) (by simp), h4⟩

/-- A guard, and when it lets its operation be carried out. -/
def Grd (ops : Array Oper) (F : List Fk) (S : Nat) (o : Oper) (c : Bool) : Prop :=
  (o.guard = none ∧ c = true) ∨ ∃ g b dg cv, o.guard = some (g, b) ∧ dep o g = true ∧ Fat F g = .val true dg (.bool cv) ∧ (ops[g]?).bind (·.dst) = some dg ∧ dg < S ∧ c = (cv == b)
theorem Grd.none {o : Oper} (h : o.guard = .none := by rfl) : Grd ops F S o true := Or.inl ⟨h, rfl⟩
theorem Grd.mk {o : Oper} (g : Nat) (b : Bool) (dg : Nat) (cv : Bool) (h1 : o.guard = some (g, b) := by rfl) (h2 : dep o g = true := by kernel_rfl) (h3 : Fat F g = .val true dg (.bool cv) := by kernel_rfl) (h4 : (ops[g]?).bind (·.dst) = some dg := by kernel_rfl) (h5 : dg < S := by decide) : Grd ops F S o (cv == b) :=
  Or.inr ⟨g, b, dg, cv, h1, h2, h3, h4, h5, rfl⟩
theorem Grd.wanted {o : Oper} {c : Bool} {a : Act} {w : World} (h : Grd ops F S o c) (hs : a.tmps.size = S) (hd : ∀ j, dep o j = true → (Fat F j).is P K a.eval w) : Region.wanted o (yielded ops a.tmps) = c := by
  rcases h with ⟨h1, rfl⟩ | ⟨g, b, dg, cv, h1, h2, h3, h4, h5, rfl⟩
  · unfold Region.wanted; rw [h1]
  · have e := hd g h2
    rw [h3] at e
    have e2 : a.eval (.tmp dg) = .bool cv := e rfl
    have hlt : dg < a.tmps.size := by omega
    have e3 : a.tmps[dg]? = some (.bool cv) := by
      rw [Array.getElem?_eq_getElem hlt]
      simp only [Act.eval, Array.getD_eq_getD_getElem?, Array.getElem?_eq_getElem hlt, Option.getD_some] at e2
      rw [e2]
    unfold Region.wanted
    rw [h1]
    show (yielded ops a.tmps g == some b) = (cv == b)
    unfold yielded
    rw [h4, Option.bind_some, e3]
    cases cv <;> cases b <;> rfl

section
variable {i d : Nat} {o : Oper} {c : Bool} {v : Value}
theorem stepOff (hap : apartB ops F (B.map (·.1)) m S = true) (hF : Fat F i = .val c d v) (hdst : o.dst = some d) (hdm : d ≠ m) (ho : ops[i]? = some o) {n : Nat} {a : Act} {w : World} (hJ : FJ P K W L m S N B KS (n + 1) a w) (hc : c = false) :
    FJ P K W L m S N B KS n (a.put o.dst undef) w ∧ (Fat F i).is P K (a.put o.dst undef).eval w ∧ ∀ j, j ≠ i → depB ops j i = false → j < ops.size → (Fat F j).is P K a.eval w → (Fat F j).is P K (a.put o.dst undef).eval w :=
  kont hap ho hJ (Below.refl _ _) (fun d' hd' => by rw [hdst] at hd'; cases hd'; exact hdm) (by rw [hF]; intro k; rw [hc] at k; cases k)
/-- An operation that reckons, or reads. -/
theorem stepVal (hap : apartB ops F (B.map (·.1)) m S = true) (c : Bool) (d : Nat) (v : Value) (hg : Grd ops F S o c)
    (h : ∀ (ρ : Operand → Value) w, (∀ v, ρ (.const v) = v) → (∀ f, ρ (.func f) = .func (.func f) #[] #[]) → Bs W w L → (∀ p ∈ B, ρ (.tmp p.1) = p.2) → (∀ j, dep o j = true → (Fat F j).is P K ρ w) → c = true → (execOp ρ o).run P w = .ok (.value v) w)
    (hF : Fat F i = .val c d v := by kernel_rfl) (hdst : o.dst = some d := by rfl) (hdm : d ≠ m := by decide) (ho : ops[i]? = some o) : StepAt P K ops Q W L m S N B KS F i o := by
  intro n a w hJ hd
  rw [hg.wanted hJ.sz hd]
  cases hc : c with
  | false => rw [if_neg (by decide)]; exact stepOff hap hF hdst hdm ho hJ hc
  | true =>
    rw [if_pos rfl]
    unfold Oper.wp
    rw [h a.eval w (fun _ => rfl) (fun _ => rfl) hJ.st hJ.base hd hc]
    refine kont hap ho hJ (Below.refl _ _) (fun d' hd' => by rw [hdst] at hd'; cases hd'; exact hdm) ?_
    rw [hF, hdst]
    exact fun _ => eval_put a v (by rw [hJ.sz]; exact (apart_at hap ho hdst).2.2.1)
/-- A call. -/
theorem stepCall (hap : apartB ops F (B.map (·.1)) m S = true) (c : Bool) (d : Nat) (v : Value) (f : Nat) (args : Array Value) (T : c = true → ∀ V, Gives P f args V v) (hg : Grd ops F S o c)
    (h : ∀ (ρ : Operand → Value) w, (∀ v, ρ (.const v) = v) → (∀ f, ρ (.func f) = .func (.func f) #[] #[]) → Bs W w L → (∀ p ∈ B, ρ (.tmp p.1) = p.2) → (∀ j, dep o j = true → (Fat F j).is P K ρ w) → c = true → (execOp ρ o).run P w = .ok (.enter f args) w)
    (hF : Fat F i = .val c d v := by kernel_rfl) (hdst : o.dst = some d := by rfl) (hdm : d ≠ m := by decide) (ho : ops[i]? = some o) : StepAt P K ops Q W L m S N B KS F i o := by
  intro n a w hJ hd
  rw [hg.wanted hJ.sz hd]
  cases hc : c with
  | false => rw [if_neg (by decide)]; exact stepOff hap hF hdst hdm ho hJ hc
  | true =>
    rw [if_pos rfl]
    unfold Oper.wp
    rw [h a.eval w (fun _ => rfl) (fun _ => rfl) hJ.st hJ.base hd hc, Oper.upon_enter]
    refine (T hc w).mono ?_
    rintro e w' ⟨rfl, hk⟩
    refine kont hap ho hJ hk (fun d' hd' => by rw [hdst] at hd'; cases hd'; exact hdm) ?_
    rw [hF, hdst]
    exact fun _ => eval_put a v (by rw [hJ.sz]; exact (apart_at hap ho hdst).2.2.1)
/-- A copy of a slot of which no more is known. -/
theorem stepEq (hap : apartB ops F (B.map (·.1)) m S = true) (d x : Nat) (hF : Fat F i = .eq d x := by kernel_rfl) (hop : o.op = .move (.tmp x) ∨ o.op = .assign (.tmp x) := by first | exact Or.inl rfl | exact Or.inr rfl) (hdst : o.dst = some d := by rfl) (hdx : d ≠ x := by decide) (hdm : d ≠ m := by decide) (hg : o.guard = none := by rfl) (ho : ops[i]? = some o) : StepAt P K ops Q W L m S N B KS F i o := by
  intro n a w hJ hd
  rw [show Region.wanted o (yielded ops a.tmps) = true from by unfold Region.wanted; rw [hg], if_pos rfl]
  unfold Oper.wp
  have hr : (execOp a.eval o).run P w = .ok (.value (a.eval (.tmp x))) w := by rcases hop with h | h <;> (simp only [execOp, h]; rfl)
  rw [hr]
  refine kont hap ho hJ (Below.refl _ _) (fun d' hd' => by rw [hdst] at hd'; cases hd'; exact hdm) ?_
  rw [hF, hdst]
  show (a.put (some d) _).eval (.tmp d) = (a.put (some d) _).eval (.tmp x)
  rw [eval_put a _ (by rw [hJ.sz]; exact (apart_at hap ho hdst).2.2.1), eval_put_ne a _ (fun e => hdx e.symm)]
/-- A literal slice. -/
theorem stepSl (hap : apartB ops F (B.map (·.1)) m S = true) (d : Nat) (l : List Int) (T : TypeId)
    (h : ∀ (ρ : Operand → Value) w, (∀ v, ρ (.const v) = v) → (∀ p ∈ B, ρ (.tmp p.1) = p.2) → (∀ j, dep o j = true → (Fat F j).is P K ρ w) → (execOp ρ o).run P w = .ok (.value (.slice (some ⟨w.heap.size, 0, none⟩) l.length l.length)) (w.alloc (.cells (l.map (Value.int .i64)).toArray T)))
    (hF : Fat F i = .sl d l := by kernel_rfl) (hdst : o.dst = some d := by rfl) (hdm : d ≠ m := by decide) (hg : o.guard = none := by rfl) (ho : ops[i]? = some o) : StepAt P K ops Q W L m S N B KS F i o := by
  intro n a w hJ hd
  rw [show Region.wanted o (yielded ops a.tmps) = true from by unfold Region.wanted; rw [hg], if_pos rfl]
  unfold Oper.wp
  rw [h a.eval w (fun _ => rfl) hJ.base hd]
  refine kont hap ho hJ ((Below.refl _ _).alloc (Nat.le_refl _) _) (fun d' hd' => by rw [hdst] at hd'; cases hd'; exact hdm) ?_
  rw [hF, hdst]
  refine ⟨w.heap.size, eval_put a _ (by rw [hJ.sz]; exact (apart_at hap ho hdst).2.2.1), fun _ => ⟨w.heap.size, 0, rfl, by simp, fun k v hk => ?_⟩⟩
  have hb := (Box.new T w (l.map (Value.int .i64))).cell k (v := .int .i64 v) (by rw [List.getElem?_map, hk]; rfl)
  simpa using hb
/-- The map is made. -/
theorem stepMp (hap : apartB ops F (B.map (·.1)) m S = true) (T : TypeId) (hF : Fat F i = .mp m := by kernel_rfl) (hop : o.op = .makeMap T none := by rfl) (hdst : o.dst = some m := by rfl) (hg : o.guard = none := by rfl) (ho : ops[i]? = some o) : StepAt P K ops Q W L m S N B KS F i o := by
  intro n a w hJ hd
  rw [show Region.wanted o (yielded ops a.tmps) = true from by unfold Region.wanted; rw [hg], if_pos rfl]
  unfold Oper.wp
  have hr : (execOp a.eval o).run P w = .ok (.value (.map (some w.heap.size))) (w.alloc (.map #[] 0)) := by simp only [execOp, hop]; rfl
  rw [hr]
  have k : Below w.heap.size w (w.alloc (.map #[] 0)) := (Below.refl _ _).alloc (Nat.le_refl _) _
  have hA := apart_at hap ho hdst
  have hv := eval_put a (.map (some w.heap.size)) (d := m) (by rw [hJ.sz]; exact hA.2.2.1)
  show FJ P K W L m S N B KS n (a.put o.dst _) _ ∧ _
  rw [hdst]
  refine ⟨⟨hJ.st.seq k, (size_put _ _ _).trans hJ.sz, (defers_put _ _ _).trans hJ.df, by have := hJ.le; omega, fun p hp => ?_, fun b hb => ?_⟩, ?_, fun j hj hdj hjs h => Fk.kept h k (fun x hx => eval_put_ne a _ (hA.2.2.2 j hj hdj hjs x hx))⟩
  · rw [eval_put_ne a _ (hA.1 p hp)]; exact hJ.base p hp
  · rw [hv] at hb
    cases hb
    exact ⟨0, .map [], by have := hJ.le; omega, hJ.st.lo.size, World.ownsMap_made _ _ _ _, fun x _ => rfl⟩
  · rw [hF]; exact ⟨_, hv⟩
/-- A value is put into the map. -/
theorem stepIns (hap : apartB ops F (B.map (·.1)) m S = true) (T E : TypeId) (s : Nat) (k : Int) (i0 : Nat) (hK : P.underlying K = some (.int .i64)) (hT : P.underlying T = some (.map K E)) (hN : N < maxLen) (hk : (Lit.int .i64 k).wf = true) (hks : k ∈ KS)
    (hother : ((List.range ops.size).all fun j => j == i || (Fat F j).other m k) = true)
    (hF : Fat F i = .ins m s k := by kernel_rfl) (hop : o.op = .insert T (.tmp m) (.const (.int .i64 k)) (.tmp s) := by rfl) (hdst : o.dst = none := by rfl) (hg : o.guard = none := by rfl) (hd0 : dep o i0 = true := by kernel_rfl) (hF0 : Fat F i0 = .mp m := by kernel_rfl) (ho : ops[i]? = some o) : StepAt P K ops Q W L m S N B KS F i o := by
  intro n a w hJ hd
  rw [show Region.wanted o (yielded ops a.tmps) = true from by unfold Region.wanted; rw [hg], if_pos rfl]
  have h0 := hd i0 hd0
  rw [hF0] at h0
  obtain ⟨b, hb⟩ := h0
  obtain ⟨q, D, h1, h2, h3, h4⟩ := hJ.mp b hb
  have hkey : keyOf P K (.int .i64 k) = some (.int .i64 k) := Maps.keyOf_int_mk hK hk
  obtain ⟨w', hrun, hD', hgr⟩ := h3.update (Maps.int_keyed hK) hT (by omega) hkey (val := a.eval (.tmp s)) (d := .held (a.eval (.tmp s))) (ps := []) rfl
  unfold Oper.wp
  have hr : (execOp a.eval o).run P w = .ok .skip w' := by
    simp only [execOp, hop, hb]
    show (Sem.run P (do Instr.mapUpdate T (.map (some b)) (.int .i64 k) (a.eval (.tmp s)); pure Next.skip) w) = _
    simp [hrun, Result.andThen]
  rw [hr]
  show FJ P K W L m S N B KS n (a.put o.dst _) _ ∧ _
  rw [hdst]
  show FJ P K W L m S N B KS n a w' ∧ (Fat F i).is P K a.eval w' ∧ ∀ j, j ≠ i → depB ops j i = false → j < ops.size → (Fat F j).is P K a.eval w → (Fat F j).is P K a.eval w'
  have hi : i < ops.size := (Array.getElem?_eq_some_iff.1 ho).1
  refine ⟨⟨?_, hJ.sz, hJ.df, by have := hJ.le; omega, hJ.base, fun b' hb' => ?_⟩, ?_, fun j hj hdj hjs h => ?_⟩
  · refine ⟨hJ.st.1.grown hgr hJ.st.1.size (fun x e => by cases e; exact h2), fun x hx => ?_, hJ.st.2.2⟩
    have hx2 := hJ.st.2.1 x hx
    refine ⟨?_, hx2.2⟩
    obtain ⟨es, cl, hbm, _⟩ := h3
    have hne : x.2.1 ≠ b := fun e => by
      have hob := hx2.1
      unfold Box at hob
      rw [e, hbm] at hob
      cases hob
    exact (hgr.block _ hx2.1.lt (fun e => hne (Option.some.inj e))).trans hx2.1
  · rw [hb] at hb'
    cases hb'
    refine ⟨q + 1, _, by omega, h2, hD', fun x hx => ?_⟩
    rw [Maps.has_put_other (fun e => hx (by injection e with _ e2; rw [e2]; exact hks))]
    exact h4 x hx
  · rw [hF]
    exact ⟨b, q + 1, _, hb, hD', fun z => Maps.atKey_put_same (k := .int .i64 k) h3.isMap (by trivial) _ z⟩
  · have ho2 := List.all_eq_true.1 hother j (List.mem_range.2 hjs)
    simp only [Bool.or_eq_true, beq_iff_eq] at ho2
    exact Fk.kept_map (f := Fat F j) (ho2.resolve_left hj) hb h3 h hgr hD'
end

/-- The region. -/
theorem region_free {id : Nat} {a : Act} {w : World} (F : List Fk) (m S : Nat) (B : List (Nat × Value)) (KS : List Int) (hm : P.follows .mixedOrders = true) (hl : laidUp ops = true) (hap : apartB ops F (B.map (·.1)) m S = true)
    (hJ : FJ P K W L m S ops.size B KS ops.size a w.drew) (hs : apartB ops F (B.map (·.1)) m S = true → Steps P K ops Q W L m S ops.size B KS F 0 ops.toList)
    (done : ∀ n a w, FJ P K W L m S ops.size B KS n a w → (∀ j, j < ops.size → (Fat F j).is P K a.eval w) → Q .normal a w) : (Code.region id ops true).wp P Q a w := by
  refine wp_region_any hm (wpAny_free (fun n a w => FJ P K W L m S ops.size B KS n a w) (fun j a w => j < ops.size → (Fat F j).is P K a.eval w) hl (fun i o ho n a w hJ hd => ?_) (fun n a w hJ hF => done n a w hJ (fun j hj => hF j hj hj)) _ _ _ _ (by simp) ?_ hJ (fun j hj => ?_) (fun j o' hj => ?_))
  · have hi : i < ops.size := (Array.getElem?_eq_some_iff.1 ho).1
    have h1 := (hs hap).at (i := i) (o := o) (by simpa using ho) (by rw [Nat.zero_add]; exact ho)
    rw [Nat.zero_add] at h1
    refine wpOp_step ho (fun K' hK' => ?_)
    have h2 := h1 n a w hJ (fun j hj => by
      unfold dep at hj
      obtain ⟨e, he0, h3⟩ := List.any_eq_true.1 hj
      have he := Array.mem_toList_iff.1 he0
      simp only [Bool.and_eq_true, beq_iff_eq] at h3
      have hlt : e.on < ops.size := by
        unfold laidUp at hl
        have g1 := List.all_eq_true.1 hl i (List.mem_range.2 hi)
        rw [ho] at g1
        simp only [Option.map_some, Option.getD_some] at g1
        have g2 := List.all_eq_true.1 g1 e (Array.mem_toList_iff.2 he)
        rw [h3.1] at g2
        have g3 : e.on < i := by simpa using g2
        omega
      rw [← h3.2]
      exact hd e he h3.1 hlt)
    split at h2
    · rename_i hw
      rw [if_pos hw]
      refine Oper.wp_mono (fun a' w' h => hK' a' w' ⟨h.1, fun _ => h.2.1, fun j hj hdj h5 hjs => h.2.2 j hj hdj hjs (h5 hjs)⟩) h2
    · rename_i hw
      rw [if_neg hw]
      exact hK' _ _ ⟨h2.1, fun _ => h2.2.1, fun j hj hdj h5 hjs => h2.2.2 j hj hdj hjs (h5 hjs)⟩
  · simp
  · exfalso
    by_cases hlt : j < ops.size
    · simp [Array.getD_eq_getD_getElem?, hlt] at hj
    · simp [Array.getD_eq_getD_getElem?, hlt] at hj
  · exfalso
    by_cases hlt : j < ops.size
    · simp [Array.getD_eq_getD_getElem?, hlt] at hj
    · simp [Array.getD_eq_getD_getElem?, hlt] at hj
end
end Go.Proofs.Ytdfacpppmfoiiaa

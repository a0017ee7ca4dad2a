/- A loop over an iterator that keeps its state in blocks of its own: no statement is proved here. -/
import Derived.RangeFuncNested
import Derived.Test.YtokfglgghdeakaaRows
namespace Go.Proofs.Ytokfglgghdeakaa
open Go.RowKit
set_option linter.unusedVariables false
set_option linter.unusedSimpArgs false

/-- All that lies below m, or from B on, stays as it lay. -/
def Apart (m B : Nat) (X Y : World) : Prop := X.heap.size ≤ Y.heap.size ∧ ∀ k, k < X.heap.size → k < m ∨ B ≤ k → Y.heap[k]? = X.heap[k]?
theorem Apart.refl (m B : Nat) (X : World) : Apart m B X X := ⟨Nat.le_refl _, fun _ _ _ => rfl⟩
theorem Apart.trans {m B : Nat} {X Y Z : World} (h : Apart m B X Y) (k : Apart m B Y Z) : Apart m B X Z :=
  ⟨Nat.le_trans h.1 k.1, fun i hi hb => (k.2 i (Nat.lt_of_lt_of_le hi h.1) hb).trans (h.2 i hi hb)⟩
theorem below_put (B : Nat) (X : World) (l : Nat) (o : Obj) (h : B ≤ l) : Below B X (X.putObj l o) :=
  ⟨rfl, rfl, rfl, by simp, fun k hk => World.putObj_heap_other (by omega)⟩

/-- What an iterator tells whoever loops over it, where it keeps its state in blocks that it lays when it is called: it turns none that lay ahead of the call, and wants that the rounds turn none of its own, and none below m. -/
def Tells {α : Type} (F : Fence) (n : Nat) (P : Program) (g : Nat) (lb : Array Value) (encs : α → Array Value) (m : Nat) (S : List α → Prop) (N : Nat) (w : World) : Prop :=
  ∀ (l : Nat) (J : List α → World → Prop) (W : World), Below w.heap.size w W → (∀ s X Y, J s X → Below W.heap.size X Y → J s Y) →
    (∀ pre x X, J pre X → pre.length < N → YieldAt F (n - 1) P l (encs x) X fun e Y => e = .returned (.bool true) ∧ J (pre ++ [x]) Y ∧ Apart m W.heap.size X Y) →
    J [] W → CallsIn F n P g (#[.func (.yield l) #[] #[]] ++ lb) W fun e Y => (∃ v, e = .returned v) ∧ ∃ xs, S xs ∧ J xs Y

/-- Such a loop, where each round goes on: I: what holds between rounds; A: what a round's frame is, its own variables laid. -/
theorem loop_told {α : Type} {F : Fence} {n : Nat} {P : Program} {g : Operand} {ps : Array Tmp} {assign body : Code} {Q : Exit → Act → World → Prop} {a : Act} {w : World}
    (hro : F.round = none) (h1 : 1 ≤ n) {gf : Nat} {lb : Array Value} (hg : a.eval g = .func (.func gf) #[] lb) (hF : F.fn gf) (eg : ∀ args w, (callFunc gf args).run P w = .ok (.enter gf args) w)
    {encs : α → Array Value} {m : Nat} {S : List α → Prop} {N : Nat} {w0 : World} (hT : Tells F (n - 1) P gf lb encs m S N w0) (hb : Below w0.heap.size w0 w) (hm : m ≤ w.heap.size) (hps : ∀ x, (encs x).size = ps.size)
    (I : List α → World → Prop) (hI : ∀ s X Y, I s X → Below w.heap.size X Y → I s Y) (h0 : I [] w)
    (A : α → Act → World → Prop) (hA : ∀ x b X l r o, A x b X → X.heap[l]? = some (.loop r) → A x b (X.putObj l o))
    (hassign : ∀ (l : Nat) (pre : List α) (x : α) (X : World) (K : Act → World → Prop), w.heap.size ≤ X.heap.size → I pre X → (∀ b Y, Below X.heap.size X Y → A x b Y → K b Y) →
      assign.wpIn (F.inRound l) (n - 1 - 1) P (Exit.then K (fun _ _ _ => False)) { tmps := (ps.zip (encs x)).foldl (fun t (p, v) => t.setIfInBounds p v) a.tmps, defers := [] } X)
    (hbody : ∀ (l : Nat) (pre : List α) (x : α) (b : Act) (X : World), I pre X → A x b X → pre.length < N →
      body.wpIn (F.inRound l) (n - 1 - 1) P (fun e _ Y => e = .normal ∧ Apart m w.heap.size X Y ∧ I (pre ++ [x]) Y) b X)
    (hdone : ∀ (D : Nat) (xs : List α) (X : World), w.heap.size ≤ D → S xs → I xs X → X.heap[D]? = some (.deferred (some [])) → Q .normal { a with defers := { target := .collected D, args := #[] } :: a.defers } X) :
    (Code.rangeFunc g ps assign body).wpIn F n P Q a w := by
  refine wpIn_rangeFunc fun fn hfn => ?_
  rw [hro]
  obtain ⟨q, hq⟩ : ∃ q : LoopState → Loop, q = fun s => { state := s, pending := none, fn, tmps := a.tmps, params := ps, assign, body, defers := w.heap.size } := ⟨_, rfl⟩
  obtain ⟨V, hV⟩ : ∃ V, (w.alloc (.deferred (some []))).alloc (.loop (q .ready)) = V := ⟨_, rfl⟩
  have hsz : V.heap.size = w.heap.size + 2 := by rw [← hV]; simp
  have hbV : Below w.heap.size w V := by rw [← hV]; exact ((Below.refl _ w).alloc (Nat.le_refl _) _).alloc (by simp) _
  have hL : V.heap[w.heap.size + 1]? = some (.loop (q .ready)) := by
    have h := World.alloc_heap_new (w.alloc (.deferred (some []))) (.loop (q .ready))
    rwa [World.size_alloc, hV] at h
  have hD : V.heap[w.heap.size]? = some (.deferred (some [])) := by
    rw [← hV]; exact (Below.heap_alloc _ _ _ (by simp)).trans (World.alloc_heap_new w _)
  have hrun := run_enterLoop_outer (P := P) (w := w) fn a.tmps ps assign body
  rw [show (Loop.mk .ready none fn a.tmps ps assign body w.heap.size) = q .ready from by rw [hq], hV] at hrun
  refine ⟨w.heap.size + 1, _, V, { target := .fn (.func gf) lb, args := #[.func (.yield (w.heap.size + 1)) #[] #[]] }, V, gf, #[.func (.yield (w.heap.size + 1)) #[] #[]] ++ lb, V, hrun, ?_, ?_, ?_, fun _ => h1, ?_⟩
  · simp only [resolve, hg]; simp [go_sem]
  · intro f hf; simp [Target.leads] at hf; subst hf; exact hF
  · simp [invoke, go_sem, eg]
  · have hstep := hT (w.heap.size + 1) (fun pre X => I pre X ∧ X.heap[w.heap.size + 1]? = some (.loop (q .ready)) ∧ X.heap[w.heap.size]? = some (.deferred (some []))) V
      (hb.trans (hbV.mono hb.size))
      (fun s X Y h hk => ⟨hI s X Y h.1 (hk.mono (by omega)), (hk.block _ (by omega)).trans h.2.1, (hk.block _ (by omega)).trans h.2.2⟩) ?_
      ⟨hI _ _ _ h0 hbV, hL, hD⟩
    · refine hstep.mono ?_
      rintro e Y ⟨⟨v, rfl⟩, xs, hS, hi, hl, hd⟩
      have h := run_endLoop (P := P) hl (by rw [hq]; simp)
      rw [show (q .ready).pending = none from by rw [hq]] at h
      exact ⟨none, _, h, hdone _ xs _ (Nat.le_refl _) hS (hI _ _ _ hi (below_put _ _ _ _ (Nat.le_succ _))) ((World.putObj_heap_other (by omega)).trans hd)⟩
    · rintro pre x X ⟨hi, hl, hd⟩ hlen
      have hlt : w.heap.size + 1 < X.heap.size := (Array.getElem?_eq_some_iff.1 hl).1
      refine ⟨_, _, _, _, run_yield (P := P) hl (by rw [hq]; exact hps x), ?_⟩
      rw [hq]
      refine roundIn_of_wpIn hfn (hassign _ pre x X _ (by omega) hi ?_)
      intro b Y hk hAb
      have hlY := (hk.block _ hlt).trans hl
      have hdY := (hk.block _ (by omega : w.heap.size < X.heap.size)).trans hd
      have hbr := run_beginRound (P := P) hlY (by rw [hq])
      refine ⟨_, hbr, wpIn_mono (hbody _ pre x b _ (hI _ _ _ (hI _ _ _ hi (hk.mono (by omega))) (below_put _ _ _ _ (Nat.le_succ _))) (hA _ _ _ _ _ _ hAb hlY) hlen) ?_⟩
      rintro e c U ⟨rfl, hap, hiU⟩
      have hltY : w.heap.size + 1 < Y.heap.size := (Array.getElem?_eq_some_iff.1 hlY).1
      have hlU : U.heap[w.heap.size + 1]? = some (.loop { q .ready with state := .busy }) := (hap.2 _ (by simpa using hltY) (.inr (Nat.le_succ _))).trans (World.putObj_heap_same hltY)
      have hdU : U.heap[w.heap.size]? = some (.deferred (some [])) := (hap.2 _ (by simp; omega) (.inr (Nat.le_refl _))).trans ((World.putObj_heap_other (by omega)).trans hdY)
      refine ⟨_, _, run_endRound (P := P) none hlU, rfl, ⟨hI _ _ _ hiU (below_put _ _ _ _ (Nat.le_succ _)), ?_, (World.putObj_heap_other (by omega)).trans hdU⟩, ?_⟩
      · rw [World.putObj_heap_same (Array.getElem?_eq_some_iff.1 hlU).1, hq]; rfl
      · refine ⟨?_, fun k hkX hkb => ?_⟩
        · have h2 := hap.1; have h3 := hk.size; simp at h2 ⊢; omega
        · have hne : k ≠ w.heap.size + 1 := by omega
          rw [World.putObj_heap_other hne, hap.2 k (by have := hk.size; simp; omega) (by omega), World.putObj_heap_other hne]
          exact hk.block k hkX

end Go.Proofs.Ytokfglgghdeakaa

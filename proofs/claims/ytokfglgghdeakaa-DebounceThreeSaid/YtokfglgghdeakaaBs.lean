/- What a walk knows of its own blocks, in one word: no statement is proved here. -/
import Derived.Test.YtokfglgghdeakaaBox
import Derived.WalkKit
import Derived.Deep.RegionHeld3
namespace Go.Proofs.Ytokfglgghdeakaa
open Go.RowKit
set_option linter.unusedVariables false

/-- The blocks of a walk: type, place, cells. -/
abbrev Bl := List (TypeId × Nat × List Value)
/-- Below W's end all is as it was; each of these blocks lies behind it, holds these cells, and no two are one. -/
def Bs (W V : World) (L : Bl) : Prop :=
  Below W.heap.size W V ∧ (∀ x ∈ L, Box x.1 V x.2.1 x.2.2 ∧ W.heap.size ≤ x.2.1) ∧ (L.map (fun x => x.2.1)).Nodup
/-- A call that hands back a value, and leaves all that was. -/
@[reducible] def Gives (P : Program) (F : Nat) (args : Array Value) (W : World) (r : Value) : Prop := Calls P F args W fun e W' => e = .returned r ∧ Below W.heap.size W W'
section
variable {W V V' : World} {L : Bl} {t : TypeId} {B : Nat} {vs : List Value}
theorem Bs.nil (W : World) : Bs W W [] := ⟨Below.refl _ _, (by simp), (by simp)⟩
theorem Bs.lo (h : Bs W V L) : Below W.heap.size W V := h.1
theorem Bs.box (h : Bs W V L) (k : Nat) (hk : L[k]? = some (t, B, vs)) : Box t V B vs := (h.2.1 _ (List.mem_of_getElem? hk)).1
theorem Bs.ge (h : Bs W V L) (k : Nat) (hk : L[k]? = some (t, B, vs)) : W.heap.size ≤ B := (h.2.1 _ (List.mem_of_getElem? hk)).2
theorem Bs.seq (h : Bs W V L) (k : Below V.heap.size V V') : Bs W V' L := ⟨below_seq h.1 k, fun x hx => ⟨(h.2.1 x hx).1.seq k, (h.2.1 x hx).2⟩, h.2.2⟩
theorem Bs.drew (h : Bs W V L) : Bs W V.drew L := ⟨h.1.drew, h.2.1, h.2.2⟩
theorem Bs.drewN (h : Bs W V L) (n : Nat) : Bs W (V.drewN n) L := ⟨⟨h.1.os, h.1.tape, h.1.output, h.1.size, h.1.block⟩, h.2.1, h.2.2⟩
theorem Bs.tl {x : TypeId × Nat × List Value} (h : Bs W V (x :: L)) : Bs W V L := ⟨h.1, fun y hy => h.2.1 y (List.mem_cons_of_mem _ hy), (List.nodup_cons.1 h.2.2).2⟩
theorem Bs.name (h : Bs W V L) : ∃ V', V = V' ∧ Bs W V' L := ⟨V, rfl, h⟩
theorem Bs.allocB (h : Bs W V L) (t : TypeId) (vs : List Value) (B : Nat) (hB : V.heap.size = B) : Bs W (V.alloc (.cells vs.toArray t)) ((t, B, vs) :: L) := by
  subst hB
  refine ⟨h.1.alloc h.1.size _, fun x hx => ?_, ?_⟩
  · rcases List.mem_cons.1 hx with rfl | hx
    · exact ⟨Box.new t V vs, h.1.size⟩
    · exact ⟨(h.2.1 x hx).1.alloc _, (h.2.1 x hx).2⟩
  · rw [List.map_cons, List.nodup_cons]
    refine ⟨fun hm => ?_, h.2.2⟩
    obtain ⟨x, hx, e⟩ := List.mem_map.1 hm
    have := (h.2.1 x hx).1.lt; simp only at e; omega
theorem Bs.alloc (h : Bs W V L) (t : TypeId) (vs : List Value) : Bs W (V.alloc (.cells vs.toArray t)) ((t, V.heap.size, vs) :: L) := h.allocB t vs _ rfl
/-- A cell of the block number k is written. -/
theorem Bs.set (h : Bs W V L) (k i : Nat) (v : Value) (hk : L[k]? = some (t, B, vs)) : Bs W (V.setCell ⟨B, i, none⟩ v) (L.set k (t, B, vs.set i v)) := by
  obtain ⟨hl, hx⟩ := List.getElem?_eq_some_iff.1 hk
  have hm : (L.set k (t, B, vs.set i v)).map (fun x => x.2.1) = L.map (fun x => x.2.1) := by
    rw [List.map_set]
    apply List.ext_getElem?
    intro j
    rw [List.getElem?_set]
    split
    · rename_i e; subst e; rw [if_pos (by simpa using hl), List.getElem?_map, hk]; rfl
    · rfl
  refine ⟨h.1.setCell (h.2.1 _ (List.mem_of_getElem? hk)).2 _, fun x hx2 => ?_, hm ▸ h.2.2⟩
  obtain ⟨j, hj⟩ := List.mem_iff_getElem?.1 hx2
  rw [List.getElem?_set] at hj
  split at hj
  · rename_i e; subst e
    cases hj; exact ⟨(h.box k hk).set i v, h.ge k hk⟩
  · rename_i e
    have hb := h.2.1 x (List.mem_of_getElem? hj)
    refine ⟨hb.1.other (fun e2 => e ?_) i v, hb.2⟩
    have h1 : (L.map (fun x => x.2.1))[k]? = some B := by rw [List.getElem?_map, hk]; rfl
    have h2 : (L.map (fun x => x.2.1))[j]? = some B := by rw [List.getElem?_map, hj, e2]; rfl
    exact (List.getElem?_inj (by simpa using hl) h.2.2).1 (h1.trans h2.symm)
theorem callB {P : Program} {F : Nat} {args : Array Value} {r : Value} {Q : Ending → World → Prop} (h : Bs W V L) (T : Gives P F args V r) (K : ∀ V', Bs W V' L → Q (.returned r) V') : Calls P F args V Q :=
  T.mono fun e V' hk => by obtain ⟨rfl, hk⟩ := hk; exact K V' (h.seq hk)
theorem callQ {P : Program} {F : Nat} {args : Array Value} {r : Value} {Q : Ending → World → Prop} (T : Calls P F args V fun e W' => e = .returned r ∧ W' = V) (K : Q (.returned r) V) : Calls P F args V Q :=
  T.mono fun e V' hk => by obtain ⟨rfl, rfl⟩ := hk; exact K
/-- A drawn region: its beginning; an operation that only reckons, or loads, taken first. -/
theorem rh {P : Program} {ops : Array Oper} {Q : Exit → Act → World → Prop} (S : World → Prop) {id : Nat} {a : Act} {w : World} (hS : S w.drew)
    (h : S w.drew → wpAnyH P .any ops Q S ops.size (Array.replicate ops.size false) a w.drew) (hm : P.follows .mixedOrders = true := by kernel_rfl) : (Code.region id ops true).wp P Q a w := wp_region_held_drew hm hS h
theorem tq {P : Program} {ops : Array Oper} {Q : Exit → Act → World → Prop} {md : Region.Mode} {S : World → Prop} (i : Nat) {oi : Oper} {v : Value} {fuel : Nat} {listed : Array Bool} {a : Act} {w : World}
    (h : wpAnyH P md ops Q S fuel (listed.setIfInBounds i true) (a.put oi.dst v) w)
    (hi : ops[i]? = some oi := by rfl) (hw : Region.wanted oi (yielded ops a.tmps) = true := by rfl) (hy : ∀ w, S w → (execOp a.eval oi).run P w = .ok (.value v) w := by intro w hS; (try dsimp only at hS); (try simp only [Act.put, l1, l2, l3, l4, l5, l6]); go_simp; try with_reducible rfl)
    (hs : Region.noSelect ops = true := by kernel_rfl) (hf : Region.free md ops listed i = true := by kernel_rfl) (hr : (Region.ready md ops listed).contains i = true := by kernel_rfl)
    (hQ : ∀ c a w, Q (.panic c) (a.put oi.dst v) w → Q (.panic c) a w := by exact fun _ _ _ h => h) (hS : S w := by assumption) : wpAnyH P md ops Q S (fuel + 1) listed a w :=
  wpAnyH_take hi hs hf hr hQ (Or.inl ⟨hw, hy⟩) hS h
theorem sk {P : Program} {ops : Array Oper} {Q : Exit → Act → World → Prop} {md : Region.Mode} {S : World → Prop} (i : Nat) {oi : Oper} {fuel : Nat} {listed : Array Bool} {a : Act} {w : World}
    (h : wpAnyH P md ops Q S fuel (listed.setIfInBounds i true) (a.put oi.dst undef) w)
    (hi : ops[i]? = some oi := by rfl) (hw : Region.wanted oi (yielded ops a.tmps) = false := by rfl)
    (hs : Region.noSelect ops = true := by kernel_rfl) (hf : Region.free md ops listed i = true := by kernel_rfl) (hr : (Region.ready md ops listed).contains i = true := by kernel_rfl)
    (hQ : ∀ c a w, Q (.panic c) (a.put oi.dst undef) w → Q (.panic c) a w := by exact fun _ _ _ h => h) (hS : S w := by assumption) : wpAnyH P md ops Q S (fuel + 1) listed a w :=
  wpAnyH_take hi hs hf hr hQ (Or.inr ⟨hw, rfl⟩) hS h
theorem rd {P : Program} {ops : Array Oper} {Q : Exit → Act → World → Prop} {md : Region.Mode} {S : World → Prop} (i : Nat) {o : Oper} {fuel : Nat} {listed : Array Bool} {a : Act} {w : World}
    (h : ∀ K' : Act → World → Prop, Shut (∀ a w, S w → (S w → wpAnyH P md ops Q S fuel (listed.setIfInBounds i true) a w) → K' a w) → Oper.wp P o a w K' Q)
    (ho : ops[i]? = some o := by rfl) (hw : Region.wanted o (yielded ops a.tmps) = true := by rfl) (hr : Region.ready md ops listed = [i] := by kernel_rfl) : wpAnyH P md ops Q S (fuel + 1) listed a w :=
  wpAnyH_ready hr (by simp) (AllReadyH.cons ho (fun K' hK => by rw [if_pos hw]; exact h K' hK) AllReadyH.nil)
theorem Bs.in1 (W : World) (t : TypeId) (vs : List Value) : Bs W (W.alloc (.cells vs.toArray t)) [(t, W.heap.size, vs)] := (Bs.nil W).alloc t vs
theorem Bs.in2 (W : World) (t : TypeId) (vs : List Value) (t2 : TypeId) (vs2 : List Value) : Bs W ((W.alloc (.cells vs.toArray t)).alloc (.cells vs2.toArray t2)) [(t2, W.heap.size + 1, vs2), (t, W.heap.size, vs)] := (Bs.in1 W t vs).allocB t2 vs2 _ (by simp)
theorem Bs.in3 (W : World) (t : TypeId) (vs : List Value) (t2 : TypeId) (vs2 : List Value) (t3 : TypeId) (vs3 : List Value) : Bs W (((W.alloc (.cells vs.toArray t)).alloc (.cells vs2.toArray t2)).alloc (.cells vs3.toArray t3)) [(t3, W.heap.size + 1 + 1, vs3), (t2, W.heap.size + 1, vs2), (t, W.heap.size, vs)] := (Bs.in2 W t vs t2 vs2).allocB t3 vs3 _ (by simp)
theorem Bs.in4 (W : World) (t : TypeId) (vs : List Value) (t2 : TypeId) (vs2 : List Value) (t3 : TypeId) (vs3 : List Value) (t4 : TypeId) (vs4 : List Value) : Bs W ((((W.alloc (.cells vs.toArray t)).alloc (.cells vs2.toArray t2)).alloc (.cells vs3.toArray t3)).alloc (.cells vs4.toArray t4)) [(t4, W.heap.size + 1 + 1 + 1, vs4), (t3, W.heap.size + 1 + 1, vs3), (t2, W.heap.size + 1, vs2), (t, W.heap.size, vs)] := (Bs.in3 W t vs t2 vs2 t3 vs3).allocB t4 vs4 _ (by simp)
theorem Bs.nek {t2 : TypeId} {B2 : Nat} {vs2 : List Value} (h : Bs W V L) (i j : Nat) (hi : L[i]? = some (t, B, vs)) (hj : L[j]? = some (t2, B2, vs2)) (hij : i ≠ j) : B ≠ B2 := fun e => by
  have h1 : (L.map (fun x => x.2.1))[i]? = some B := by rw [List.getElem?_map, hi]; rfl
  have h2 : (L.map (fun x => x.2.1))[j]? = some B := by rw [List.getElem?_map, hj, e]; rfl
  exact hij ((List.getElem?_inj (by rw [List.length_map]; exact (List.getElem?_eq_some_iff.1 hi).1) h.2.2).1 (h1.trans h2.symm))
theorem Bs.n1 {t1 : TypeId} {B1 : Nat} {v1 : List Value} (h : Bs W V ((t, B, vs) :: (t1, B1, v1) :: L)) : B ≠ B1 := h.nek 0 1 rfl rfl (by decide)
theorem Bs.n2 {t1 t2 : TypeId} {B1 B2 : Nat} {v1 v2 : List Value} (h : Bs W V ((t, B, vs) :: (t1, B1, v1) :: (t2, B2, v2) :: L)) : B ≠ B1 ∧ B ≠ B2 := ⟨h.nek 0 1 rfl rfl (by decide), h.nek 0 2 rfl rfl (by decide)⟩
theorem Bs.n3 {t1 t2 t3 : TypeId} {B1 B2 B3 : Nat} {v1 v2 v3 : List Value} (h : Bs W V ((t, B, vs) :: (t1, B1, v1) :: (t2, B2, v2) :: (t3, B3, v3) :: L)) : B ≠ B1 ∧ B ≠ B2 ∧ B ≠ B3 := ⟨h.nek 0 1 rfl rfl (by decide), h.nek 0 2 rfl rfl (by decide), h.nek 0 3 rfl rfl (by decide)⟩
theorem Bs.n4 {t1 t2 t3 t4 : TypeId} {B1 B2 B3 B4 : Nat} {v1 v2 v3 v4 : List Value} (h : Bs W V ((t, B, vs) :: (t1, B1, v1) :: (t2, B2, v2) :: (t3, B3, v3) :: (t4, B4, v4) :: L)) : B ≠ B1 ∧ B ≠ B2 ∧ B ≠ B3 ∧ B ≠ B4 := ⟨h.nek 0 1 rfl rfl (by decide), h.nek 0 2 rfl rfl (by decide), h.nek 0 3 rfl rfl (by decide), h.nek 0 4 rfl rfl (by decide)⟩
theorem Bs.n5 {t1 t2 t3 t4 t5 : TypeId} {B1 B2 B3 B4 B5 : Nat} {v1 v2 v3 v4 v5 : List Value} (h : Bs W V ((t, B, vs) :: (t1, B1, v1) :: (t2, B2, v2) :: (t3, B3, v3) :: (t4, B4, v4) :: (t5, B5, v5) :: L)) : B ≠ B1 ∧ B ≠ B2 ∧ B ≠ B3 ∧ B ≠ B4 ∧ B ≠ B5 := ⟨h.nek 0 1 rfl rfl (by decide), h.nek 0 2 rfl rfl (by decide), h.nek 0 3 rfl rfl (by decide), h.nek 0 4 rfl rfl (by decide), h.nek 0 5 rfl rfl (by decide)⟩
theorem Bs.n6 {t1 t2 t3 t4 t5 t6 : TypeId} {B1 B2 B3 B4 B5 B6 : Nat} {v1 v2 v3 v4 v5 v6 : List Value} (h : Bs W V ((t, B, vs) :: (t1, B1, v1) :: (t2, B2, v2) :: (t3, B3, v3) :: (t4, B4, v4) :: (t5, B5, v5) :: (t6, B6, v6) :: L)) : B ≠ B1 ∧ B ≠ B2 ∧ B ≠ B3 ∧ B ≠ B4 ∧ B ≠ B5 ∧ B ≠ B6 := ⟨h.nek 0 1 rfl rfl (by decide), h.nek 0 2 rfl rfl (by decide), h.nek 0 3 rfl rfl (by decide), h.nek 0 4 rfl rfl (by decide), h.nek 0 5 rfl rfl (by decide), h.nek 0 6 rfl rfl (by decide)⟩
theorem Bs.n7 {t1 t2 t3 t4 t5 t6 t7 : TypeId} {B1 B2 B3 B4 B5 B6 B7 : Nat} {v1 v2 v3 v4 v5 v6 v7 : List Value} (h : Bs W V ((t, B, vs) :: (t1, B1, v1) :: (t2, B2, v2) :: (t3, B3, v3) :: (t4, B4, v4) :: (t5, B5, v5) :: (t6, B6, v6) :: (t7, B7, v7) :: L)) : B ≠ B1 ∧ B ≠ B2 ∧ B ≠ B3 ∧ B ≠ B4 ∧ B ≠ B5 ∧ B ≠ B6 ∧ B ≠ B7 := ⟨h.nek 0 1 rfl rfl (by decide), h.nek 0 2 rfl rfl (by decide), h.nek 0 3 rfl rfl (by decide), h.nek 0 4 rfl rfl (by decide), h.nek 0 5 rfl rfl (by decide), h.nek 0 6 rfl rfl (by decide), h.nek 0 7 rfl rfl (by decide)⟩
@[reducible] def C1 (W : World) (B : Nat) (v0 : Value) : Prop := W.cell? ⟨B, 0, none⟩ = some v0
theorem Box.c1 {v0 : Value} (h : Box t W B [v0]) : C1 W B v0 := h.cell 0 rfl
@[reducible] def C2 (W : World) (B : Nat) (v0 v1 : Value) : Prop := W.cell? ⟨B, 0, none⟩ = some v0 ∧ W.cell? ⟨B, 1, none⟩ = some v1
theorem Box.c2 {v0 v1 : Value} (h : Box t W B [v0, v1]) : C2 W B v0 v1 := ⟨h.cell 0 rfl, h.cell 1 rfl⟩
@[reducible] def C3 (W : World) (B : Nat) (v0 v1 v2 : Value) : Prop := W.cell? ⟨B, 0, none⟩ = some v0 ∧ W.cell? ⟨B, 1, none⟩ = some v1 ∧ W.cell? ⟨B, 2, none⟩ = some v2
theorem Box.c3 {v0 v1 v2 : Value} (h : Box t W B [v0, v1, v2]) : C3 W B v0 v1 v2 := ⟨h.cell 0 rfl, h.cell 1 rfl, h.cell 2 rfl⟩
@[reducible] def C4 (W : World) (B : Nat) (v0 v1 v2 v3 : Value) : Prop := W.cell? ⟨B, 0, none⟩ = some v0 ∧ W.cell? ⟨B, 1, none⟩ = some v1 ∧ W.cell? ⟨B, 2, none⟩ = some v2 ∧ W.cell? ⟨B, 3, none⟩ = some v3
theorem Box.c4 {v0 v1 v2 v3 : Value} (h : Box t W B [v0, v1, v2, v3]) : C4 W B v0 v1 v2 v3 := ⟨h.cell 0 rfl, h.cell 1 rfl, h.cell 2 rfl, h.cell 3 rfl⟩
@[reducible] def C5 (W : World) (B : Nat) (v0 v1 v2 v3 v4 : Value) : Prop := W.cell? ⟨B, 0, none⟩ = some v0 ∧ W.cell? ⟨B, 1, none⟩ = some v1 ∧ W.cell? ⟨B, 2, none⟩ = some v2 ∧ W.cell? ⟨B, 3, none⟩ = some v3 ∧ W.cell? ⟨B, 4, none⟩ = some v4
theorem Box.c5 {v0 v1 v2 v3 v4 : Value} (h : Box t W B [v0, v1, v2, v3, v4]) : C5 W B v0 v1 v2 v3 v4 := ⟨h.cell 0 rfl, h.cell 1 rfl, h.cell 2 rfl, h.cell 3 rfl, h.cell 4 rfl⟩
@[reducible] def C6 (W : World) (B : Nat) (v0 v1 v2 v3 v4 v5 : Value) : Prop := W.cell? ⟨B, 0, none⟩ = some v0 ∧ W.cell? ⟨B, 1, none⟩ = some v1 ∧ W.cell? ⟨B, 2, none⟩ = some v2 ∧ W.cell? ⟨B, 3, none⟩ = some v3 ∧ W.cell? ⟨B, 4, none⟩ = some v4 ∧ W.cell? ⟨B, 5, none⟩ = some v5
theorem Box.c6 {v0 v1 v2 v3 v4 v5 : Value} (h : Box t W B [v0, v1, v2, v3, v4, v5]) : C6 W B v0 v1 v2 v3 v4 v5 := ⟨h.cell 0 rfl, h.cell 1 rfl, h.cell 2 rfl, h.cell 3 rfl, h.cell 4 rfl, h.cell 5 rfl⟩
@[reducible] def C7 (W : World) (B : Nat) (v0 v1 v2 v3 v4 v5 v6 : Value) : Prop := W.cell? ⟨B, 0, none⟩ = some v0 ∧ W.cell? ⟨B, 1, none⟩ = some v1 ∧ W.cell? ⟨B, 2, none⟩ = some v2 ∧ W.cell? ⟨B, 3, none⟩ = some v3 ∧ W.cell? ⟨B, 4, none⟩ = some v4 ∧ W.cell? ⟨B, 5, none⟩ = some v5 ∧ W.cell? ⟨B, 6, none⟩ = some v6
theorem Box.c7 {v0 v1 v2 v3 v4 v5 v6 : Value} (h : Box t W B [v0, v1, v2, v3, v4, v5, v6]) : C7 W B v0 v1 v2 v3 v4 v5 v6 := ⟨h.cell 0 rfl, h.cell 1 rfl, h.cell 2 rfl, h.cell 3 rfl, h.cell 4 rfl, h.cell 5 rfl, h.cell 6 rfl⟩
@[reducible] def C8 (W : World) (B : Nat) (v0 v1 v2 v3 v4 v5 v6 v7 : Value) : Prop := W.cell? ⟨B, 0, none⟩ = some v0 ∧ W.cell? ⟨B, 1, none⟩ = some v1 ∧ W.cell? ⟨B, 2, none⟩ = some v2 ∧ W.cell? ⟨B, 3, none⟩ = some v3 ∧ W.cell? ⟨B, 4, none⟩ = some v4 ∧ W.cell? ⟨B, 5, none⟩ = some v5 ∧ W.cell? ⟨B, 6, none⟩ = some v6 ∧ W.cell? ⟨B, 7, none⟩ = some v7
theorem Box.c8 {v0 v1 v2 v3 v4 v5 v6 v7 : Value} (h : Box t W B [v0, v1, v2, v3, v4, v5, v6, v7]) : C8 W B v0 v1 v2 v3 v4 v5 v6 v7 := ⟨h.cell 0 rfl, h.cell 1 rfl, h.cell 2 rfl, h.cell 3 rfl, h.cell 4 rfl, h.cell 5 rfl, h.cell 6 rfl, h.cell 7 rfl⟩
@[reducible] def C9 (W : World) (B : Nat) (v0 v1 v2 v3 v4 v5 v6 v7 v8 : Value) : Prop := W.cell? ⟨B, 0, none⟩ = some v0 ∧ W.cell? ⟨B, 1, none⟩ = some v1 ∧ W.cell? ⟨B, 2, none⟩ = some v2 ∧ W.cell? ⟨B, 3, none⟩ = some v3 ∧ W.cell? ⟨B, 4, none⟩ = some v4 ∧ W.cell? ⟨B, 5, none⟩ = some v5 ∧ W.cell? ⟨B, 6, none⟩ = some v6 ∧ W.cell? ⟨B, 7, none⟩ = some v7 ∧ W.cell? ⟨B, 8, none⟩ = some v8
theorem Box.c9 {v0 v1 v2 v3 v4 v5 v6 v7 v8 : Value} (h : Box t W B [v0, v1, v2, v3, v4, v5, v6, v7, v8]) : C9 W B v0 v1 v2 v3 v4 v5 v6 v7 v8 := ⟨h.cell 0 rfl, h.cell 1 rfl, h.cell 2 rfl, h.cell 3 rfl, h.cell 4 rfl, h.cell 5 rfl, h.cell 6 rfl, h.cell 7 rfl, h.cell 8 rfl⟩
@[reducible] def C10 (W : World) (B : Nat) (v0 v1 v2 v3 v4 v5 v6 v7 v8 v9 : Value) : Prop := W.cell? ⟨B, 0, none⟩ = some v0 ∧ W.cell? ⟨B, 1, none⟩ = some v1 ∧ W.cell? ⟨B, 2, none⟩ = some v2 ∧ W.cell? ⟨B, 3, none⟩ = some v3 ∧ W.cell? ⟨B, 4, none⟩ = some v4 ∧ W.cell? ⟨B, 5, none⟩ = some v5 ∧ W.cell? ⟨B, 6, none⟩ = some v6 ∧ W.cell? ⟨B, 7, none⟩ = some v7 ∧ W.cell? ⟨B, 8, none⟩ = some v8 ∧ W.cell? ⟨B, 9, none⟩ = some v9
theorem Box.c10 {v0 v1 v2 v3 v4 v5 v6 v7 v8 v9 : Value} (h : Box t W B [v0, v1, v2, v3, v4, v5, v6, v7, v8, v9]) : C10 W B v0 v1 v2 v3 v4 v5 v6 v7 v8 v9 := ⟨h.cell 0 rfl, h.cell 1 rfl, h.cell 2 rfl, h.cell 3 rfl, h.cell 4 rfl, h.cell 5 rfl, h.cell 6 rfl, h.cell 7 rfl, h.cell 8 rfl, h.cell 9 rfl⟩
@[reducible] def C11 (W : World) (B : Nat) (v0 v1 v2 v3 v4 v5 v6 v7 v8 v9 v10 : Value) : Prop := W.cell? ⟨B, 0, none⟩ = some v0 ∧ W.cell? ⟨B, 1, none⟩ = some v1 ∧ W.cell? ⟨B, 2, none⟩ = some v2 ∧ W.cell? ⟨B, 3, none⟩ = some v3 ∧ W.cell? ⟨B, 4, none⟩ = some v4 ∧ W.cell? ⟨B, 5, none⟩ = some v5 ∧ W.cell? ⟨B, 6, none⟩ = some v6 ∧ W.cell? ⟨B, 7, none⟩ = some v7 ∧ W.cell? ⟨B, 8, none⟩ = some v8 ∧ W.cell? ⟨B, 9, none⟩ = some v9 ∧ W.cell? ⟨B, 10, none⟩ = some v10
theorem Box.c11 {v0 v1 v2 v3 v4 v5 v6 v7 v8 v9 v10 : Value} (h : Box t W B [v0, v1, v2, v3, v4, v5, v6, v7, v8, v9, v10]) : C11 W B v0 v1 v2 v3 v4 v5 v6 v7 v8 v9 v10 := ⟨h.cell 0 rfl, h.cell 1 rfl, h.cell 2 rfl, h.cell 3 rfl, h.cell 4 rfl, h.cell 5 rfl, h.cell 6 rfl, h.cell 7 rfl, h.cell 8 rfl, h.cell 9 rfl, h.cell 10 rfl⟩
@[reducible] def C12 (W : World) (B : Nat) (v0 v1 v2 v3 v4 v5 v6 v7 v8 v9 v10 v11 : Value) : Prop := W.cell? ⟨B, 0, none⟩ = some v0 ∧ W.cell? ⟨B, 1, none⟩ = some v1 ∧ W.cell? ⟨B, 2, none⟩ = some v2 ∧ W.cell? ⟨B, 3, none⟩ = some v3 ∧ W.cell? ⟨B, 4, none⟩ = some v4 ∧ W.cell? ⟨B, 5, none⟩ = some v5 ∧ W.cell? ⟨B, 6, none⟩ = some v6 ∧ W.cell? ⟨B, 7, none⟩ = some v7 ∧ W.cell? ⟨B, 8, none⟩ = some v8 ∧ W.cell? ⟨B, 9, none⟩ = some v9 ∧ W.cell? ⟨B, 10, none⟩ = some v10 ∧ W.cell? ⟨B, 11, none⟩ = some v11
theorem Box.c12 {v0 v1 v2 v3 v4 v5 v6 v7 v8 v9 v10 v11 : Value} (h : Box t W B [v0, v1, v2, v3, v4, v5, v6, v7, v8, v9, v10, v11]) : C12 W B v0 v1 v2 v3 v4 v5 v6 v7 v8 v9 v10 v11 := ⟨h.cell 0 rfl, h.cell 1 rfl, h.cell 2 rfl, h.cell 3 rfl, h.cell 4 rfl, h.cell 5 rfl, h.cell 6 rfl, h.cell 7 rfl, h.cell 8 rfl, h.cell 9 rfl, h.cell 10 rfl, h.cell 11 rfl⟩
@[reducible] def C13 (W : World) (B : Nat) (v0 v1 v2 v3 v4 v5 v6 v7 v8 v9 v10 v11 v12 : Value) : Prop := W.cell? ⟨B, 0, none⟩ = some v0 ∧ W.cell? ⟨B, 1, none⟩ = some v1 ∧ W.cell? ⟨B, 2, none⟩ = some v2 ∧ W.cell? ⟨B, 3, none⟩ = some v3 ∧ W.cell? ⟨B, 4, none⟩ = some v4 ∧ W.cell? ⟨B, 5, none⟩ = some v5 ∧ W.cell? ⟨B, 6, none⟩ = some v6 ∧ W.cell? ⟨B, 7, none⟩ = some v7 ∧ W.cell? ⟨B, 8, none⟩ = some v8 ∧ W.cell? ⟨B, 9, none⟩ = some v9 ∧ W.cell? ⟨B, 10, none⟩ = some v10 ∧ W.cell? ⟨B, 11, none⟩ = some v11 ∧ W.cell? ⟨B, 12, none⟩ = some v12
theorem Box.c13 {v0 v1 v2 v3 v4 v5 v6 v7 v8 v9 v10 v11 v12 : Value} (h : Box t W B [v0, v1, v2, v3, v4, v5, v6, v7, v8, v9, v10, v11, v12]) : C13 W B v0 v1 v2 v3 v4 v5 v6 v7 v8 v9 v10 v11 v12 := ⟨h.cell 0 rfl, h.cell 1 rfl, h.cell 2 rfl, h.cell 3 rfl, h.cell 4 rfl, h.cell 5 rfl, h.cell 6 rfl, h.cell 7 rfl, h.cell 8 rfl, h.cell 9 rfl, h.cell 10 rfl, h.cell 11 rfl, h.cell 12 rfl⟩
@[reducible] def C14 (W : World) (B : Nat) (v0 v1 v2 v3 v4 v5 v6 v7 v8 v9 v10 v11 v12 v13 : Value) : Prop := W.cell? ⟨B, 0, none⟩ = some v0 ∧ W.cell? ⟨B, 1, none⟩ = some v1 ∧ W.cell? ⟨B, 2, none⟩ = some v2 ∧ W.cell? ⟨B, 3, none⟩ = some v3 ∧ W.cell? ⟨B, 4, none⟩ = some v4 ∧ W.cell? ⟨B, 5, none⟩ = some v5 ∧ W.cell? ⟨B, 6, none⟩ = some v6 ∧ W.cell? ⟨B, 7, none⟩ = some v7 ∧ W.cell? ⟨B, 8, none⟩ = some v8 ∧ W.cell? ⟨B, 9, none⟩ = some v9 ∧ W.cell? ⟨B, 10, none⟩ = some v10 ∧ W.cell? ⟨B, 11, none⟩ = some v11 ∧ W.cell? ⟨B, 12, none⟩ = some v12 ∧ W.cell? ⟨B, 13, none⟩ = some v13
theorem Box.c14 {v0 v1 v2 v3 v4 v5 v6 v7 v8 v9 v10 v11 v12 v13 : Value} (h : Box t W B [v0, v1, v2, v3, v4, v5, v6, v7, v8, v9, v10, v11, v12, v13]) : C14 W B v0 v1 v2 v3 v4 v5 v6 v7 v8 v9 v10 v11 v12 v13 := ⟨h.cell 0 rfl, h.cell 1 rfl, h.cell 2 rfl, h.cell 3 rfl, h.cell 4 rfl, h.cell 5 rfl, h.cell 6 rfl, h.cell 7 rfl, h.cell 8 rfl, h.cell 9 rfl, h.cell 10 rfl, h.cell 11 rfl, h.cell 12 rfl, h.cell 13 rfl⟩
theorem Bs.put1 (h : Bs W V L) (k : Nat) (v0 : Value) {a0 : Value} (hk : L[k]? = some (t, B, [a0])) : ∃ V', (V.setCell ⟨B, 0, none⟩ v0) = V' ∧ Bs W V' (L.set k (t, B, [v0])) := by
  have hl := (List.getElem?_eq_some_iff.1 hk).1
  have h0 := h.set k 0 v0 hk
  exact ⟨_, rfl, h0⟩
theorem Bs.put2 (h : Bs W V L) (k : Nat) (v0 v1 : Value) {a0 a1 : Value} (hk : L[k]? = some (t, B, [a0, a1])) : ∃ V', ((V.setCell ⟨B, 0, none⟩ v0).setCell ⟨B, 1, none⟩ v1) = V' ∧ Bs W V' (L.set k (t, B, [v0, v1])) := by
  have hl := (List.getElem?_eq_some_iff.1 hk).1
  have g (x : TypeId × Nat × List Value) : (L.set k x)[k]? = some x := List.getElem?_set_self hl
  have h0 := h.set k 0 v0 hk
  have h1 := h0.set k 1 v1 (g _)
  rw [List.set_set] at h1
  exact ⟨_, rfl, h1⟩
theorem Bs.put3 (h : Bs W V L) (k : Nat) (v0 v1 v2 : Value) {a0 a1 a2 : Value} (hk : L[k]? = some (t, B, [a0, a1, a2])) : ∃ V', (((V.setCell ⟨B, 0, none⟩ v0).setCell ⟨B, 1, none⟩ v1).setCell ⟨B, 2, none⟩ v2) = V' ∧ Bs W V' (L.set k (t, B, [v0, v1, v2])) := by
  have hl := (List.getElem?_eq_some_iff.1 hk).1
  have g (x : TypeId × Nat × List Value) : (L.set k x)[k]? = some x := List.getElem?_set_self hl
  have h0 := h.set k 0 v0 hk
  have h1 := h0.set k 1 v1 (g _)
  rw [List.set_set] at h1
  have h2 := h1.set k 2 v2 (g _)
  rw [List.set_set] at h2
  exact ⟨_, rfl, h2⟩
theorem Bs.put4 (h : Bs W V L) (k : Nat) (v0 v1 v2 v3 : Value) {a0 a1 a2 a3 : Value} (hk : L[k]? = some (t, B, [a0, a1, a2, a3])) : ∃ V', ((((V.setCell ⟨B, 0, none⟩ v0).setCell ⟨B, 1, none⟩ v1).setCell ⟨B, 2, none⟩ v2).setCell ⟨B, 3, none⟩ v3) = V' ∧ Bs W V' (L.set k (t, B, [v0, v1, v2, v3])) := by
  have hl := (List.getElem?_eq_some_iff.1 hk).1
  have g (x : TypeId × Nat × List Value) : (L.set k x)[k]? = some x := List.getElem?_set_self hl
  have h0 := h.set k 0 v0 hk
  have h1 := h0.set k 1 v1 (g _)
  rw [List.set_set] at h1
  have h2 := h1.set k 2 v2 (g _)
  rw [List.set_set] at h2
  have h3 := h2.set k 3 v3 (g _)
  rw [List.set_set] at h3
  exact ⟨_, rfl, h3⟩
theorem Bs.put5 (h : Bs W V L) (k : Nat) (v0 v1 v2 v3 v4 : Value) {a0 a1 a2 a3 a4 : Value} (hk : L[k]? = some (t, B, [a0, a1, a2, a3, a4])) : ∃ V', (((((V.setCell ⟨B, 0, none⟩ v0).setCell ⟨B, 1, none⟩ v1).setCell ⟨B, 2, none⟩ v2).setCell ⟨B, 3, none⟩ v3).setCell ⟨B, 4, none⟩ v4) = V' ∧ Bs W V' (L.set k (t, B, [v0, v1, v2, v3, v4])) := by
  have hl := (List.getElem?_eq_some_iff.1 hk).1
  have g (x : TypeId × Nat × List Value) : (L.set k x)[k]? = some x := List.getElem?_set_self hl
  have h0 := h.set k 0 v0 hk
  have h1 := h0.set k 1 v1 (g _)
  rw [List.set_set] at h1
  have h2 := h1.set k 2 v2 (g _)
  rw [List.set_set] at h2
  have h3 := h2.set k 3 v3 (g _)
  rw [List.set_set] at h3
  have h4 := h3.set k 4 v4 (g _)
  rw [List.set_set] at h4
  exact ⟨_, rfl, h4⟩
theorem Bs.put6 (h : Bs W V L) (k : Nat) (v0 v1 v2 v3 v4 v5 : Value) {a0 a1 a2 a3 a4 a5 : Value} (hk : L[k]? = some (t, B, [a0, a1, a2, a3, a4, a5])) : ∃ V', ((((((V.setCell ⟨B, 0, none⟩ v0).setCell ⟨B, 1, none⟩ v1).setCell ⟨B, 2, none⟩ v2).setCell ⟨B, 3, none⟩ v3).setCell ⟨B, 4, none⟩ v4).setCell ⟨B, 5, none⟩ v5) = V' ∧ Bs W V' (L.set k (t, B, [v0, v1, v2, v3, v4, v5])) := by
  have hl := (List.getElem?_eq_some_iff.1 hk).1
  have g (x : TypeId × Nat × List Value) : (L.set k x)[k]? = some x := List.getElem?_set_self hl
  have h0 := h.set k 0 v0 hk
  have h1 := h0.set k 1 v1 (g _)
  rw [List.set_set] at h1
  have h2 := h1.set k 2 v2 (g _)
  rw [List.set_set] at h2
  have h3 := h2.set k 3 v3 (g _)
  rw [List.set_set] at h3
  have h4 := h3.set k 4 v4 (g _)
  rw [List.set_set] at h4
  have h5 := h4.set k 5 v5 (g _)
  rw [List.set_set] at h5
  exact ⟨_, rfl, h5⟩
theorem Bs.put7 (h : Bs W V L) (k : Nat) (v0 v1 v2 v3 v4 v5 v6 : Value) {a0 a1 a2 a3 a4 a5 a6 : Value} (hk : L[k]? = some (t, B, [a0, a1, a2, a3, a4, a5, a6])) : ∃ V', (((((((V.setCell ⟨B, 0, none⟩ v0).setCell ⟨B, 1, none⟩ v1).setCell ⟨B, 2, none⟩ v2).setCell ⟨B, 3, none⟩ v3).setCell ⟨B, 4, none⟩ v4).setCell ⟨B, 5, none⟩ v5).setCell ⟨B, 6, none⟩ v6) = V' ∧ Bs W V' (L.set k (t, B, [v0, v1, v2, v3, v4, v5, v6])) := by
  have hl := (List.getElem?_eq_some_iff.1 hk).1
  have g (x : TypeId × Nat × List Value) : (L.set k x)[k]? = some x := List.getElem?_set_self hl
  have h0 := h.set k 0 v0 hk
  have h1 := h0.set k 1 v1 (g _)
  rw [List.set_set] at h1
  have h2 := h1.set k 2 v2 (g _)
  rw [List.set_set] at h2
  have h3 := h2.set k 3 v3 (g _)
  rw [List.set_set] at h3
  have h4 := h3.set k 4 v4 (g _)
  rw [List.set_set] at h4
  have h5 := h4.set k 5 v5 (g _)
  rw [List.set_set] at h5
  have h6 := h5.set k 6 v6 (g _)
  rw [List.set_set] at h6
  exact ⟨_, rfl, h6⟩
theorem Bs.put8 (h : Bs W V L) (k : Nat) (v0 v1 v2 v3 v4 v5 v6 v7 : Value) {a0 a1 a2 a3 a4 a5 a6 a7 : Value} (hk : L[k]? = some (t, B, [a0, a1, a2, a3, a4, a5, a6, a7])) : ∃ V', ((((((((V.setCell ⟨B, 0, none⟩ v0).setCell ⟨B, 1, none⟩ v1).setCell ⟨B, 2, none⟩ v2).setCell ⟨B, 3, none⟩ v3).setCell ⟨B, 4, none⟩ v4).setCell ⟨B, 5, none⟩ v5).setCell ⟨B, 6, none⟩ v6).setCell ⟨B, 7, none⟩ v7) = V' ∧ Bs W V' (L.set k (t, B, [v0, v1, v2, v3, v4, v5, v6, v7])) := by
  have hl := (List.getElem?_eq_some_iff.1 hk).1
  have g (x : TypeId × Nat × List Value) : (L.set k x)[k]? = some x := List.getElem?_set_self hl
  have h0 := h.set k 0 v0 hk
  have h1 := h0.set k 1 v1 (g _)
  rw [List.set_set] at h1
  have h2 := h1.set k 2 v2 (g _)
  rw [List.set_set] at h2
  have h3 := h2.set k 3 v3 (g _)
  rw [List.set_set] at h3
  have h4 := h3.set k 4 v4 (g _)
  rw [List.set_set] at h4
  have h5 := h4.set k 5 v5 (g _)
  rw [List.set_set] at h5
  have h6 := h5.set k 6 v6 (g _)
  rw [List.set_set] at h6
  have h7 := h6.set k 7 v7 (g _)
  rw [List.set_set] at h7
  exact ⟨_, rfl, h7⟩
theorem Bs.put9 (h : Bs W V L) (k : Nat) (v0 v1 v2 v3 v4 v5 v6 v7 v8 : Value) {a0 a1 a2 a3 a4 a5 a6 a7 a8 : Value} (hk : L[k]? = some (t, B, [a0, a1, a2, a3, a4, a5, a6, a7, a8])) : ∃ V', (((((((((V.setCell ⟨B, 0, none⟩ v0).setCell ⟨B, 1, none⟩ v1).setCell ⟨B, 2, none⟩ v2).setCell ⟨B, 3, none⟩ v3).setCell ⟨B, 4, none⟩ v4).setCell ⟨B, 5, none⟩ v5).setCell ⟨B, 6, none⟩ v6).setCell ⟨B, 7, none⟩ v7).setCell ⟨B, 8, none⟩ v8) = V' ∧ Bs W V' (L.set k (t, B, [v0, v1, v2, v3, v4, v5, v6, v7, v8])) := by
  have hl := (List.getElem?_eq_some_iff.1 hk).1
  have g (x : TypeId × Nat × List Value) : (L.set k x)[k]? = some x := List.getElem?_set_self hl
  have h0 := h.set k 0 v0 hk
  have h1 := h0.set k 1 v1 (g _)
  rw [List.set_set] at h1
  have h2 := h1.set k 2 v2 (g _)
  rw [List.set_set] at h2
  have h3 := h2.set k 3 v3 (g _)
  rw [List.set_set] at h3
  have h4 := h3.set k 4 v4 (g _)
  rw [List.set_set] at h4
  have h5 := h4.set k 5 v5 (g _)
  rw [List.set_set] at h5
  have h6 := h5.set k 6 v6 (g _)
  rw [List.set_set] at h6
  have h7 := h6.set k 7 v7 (g _)
  rw [List.set_set] at h7
  have h8 := h7.set k 8 v8 (g _)
  rw [List.set_set] at h8
  exact ⟨_, rfl, h8⟩
end
end Go.Proofs.Ytokfglgghdeakaa

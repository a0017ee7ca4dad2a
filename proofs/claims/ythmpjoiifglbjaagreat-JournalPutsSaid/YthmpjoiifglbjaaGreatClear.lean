/- The program's own calls of layer 1: what each hands back, at all texts: contracts only. -/
import Derived.Test.YthmpjoiifglbjaaGreatIter
import Derived.Laws.OwnMore
namespace Go.Proofs.YthmpjoiifglbjaaGreat
open Go.RowKit Go.Shelf
set_option linter.unusedVariables false
attribute [local go_sem] b8_and b8_or b8_andNot gdI_255 gdI_0 b8_xorAll Oper.semAt_some

theorem wpListIn_make_full {F : Fence} {n : Nat} {P : Program} (w : World) {ops : Array Oper} {rest : List Oper} {o : Oper} {a : Act} {Q : Exit → Act → World → Prop}
    (hg : o.guard = none) (l c : Operand) (t : TypeId) (hop : o.op = Op.makeSlice t l c)
    (base : Nat) (e : TypeId) (i : TypeInfo) (z : Value) (size : Nat) (h1 : P.underlying t = some (.slice e)) (h2 : P.info? e = some i) (h3 : i.zero = some z) (h4 : i.size = size)
    (kl kc : IntKind) (L C : Int) (m : Nat) (hl : a.eval l = .int kl L) (hc : a.eval c = .int kc C) (hL : L = (m : Int)) (hC : C = (m : Int)) (b2 : i.bytes * m ≤ 281474976710656) (b3 : m ≤ maxLen) (b4 : base ≤ w.heap.size)
    (hK : ∀ w', w'.ownsRow base e size (.slice (some ⟨w.heap.size, 0, none⟩) m m) m (madeCells z.cells (m * size)).toList → w.grownBy w' none → wpListIn F n P ops Q rest (a.put o.dst (.slice (some ⟨w.heap.size, 0, none⟩) m m)) w') :
    wpListIn F n P ops Q (o :: rest) a w := by
  refine wpListIn_plain hg fun K hK' => ?_
  obtain ⟨w', hrun, r1, r2⟩ := run_make_full (P := P) w base t e i z size h1 h2 h3 h4 kl kc m b2 b3 b4
  subst hL
  subst hC
  unfold Oper.wpIn
  refine ⟨?_, ?_⟩
  · simp [Oper.about, hop]
  · rw [Oper.semAt_plain F _ _ (by rw [hop]; intro c hc'; cases hc')]
    simp [execOp, hop, hl, hc, hrun, Result.andThen]
    exact hK' _ _ (hK w' r1 r2)

/-- A block of cells lies on where the steps turn blocks alone that are no cells. -/
theorem cells_own {W W' : World} {row : Option Nat} {B : Nat} {cs : Array Value} {t : TypeId} {fr : Nat × Nat} (h : W.heap[B]? = some (.cells cs t fr)) (hg : W.grownBy W' row)
    (hr : ∀ r, row = some r → ∃ o : Obj, W.heap[r]? = some o ∧ o.isCells = false) : W'.heap[B]? = some (.cells cs t fr) := by
  refine (hg.block B (Array.getElem?_eq_some_iff.1 h).1 (fun e => ?_)).trans h
  obtain ⟨o, ho, hc⟩ := hr B e.symm
  rw [h] at ho; cases ho; cases hc

/-- A row that is filled place by place: what it holds when the places of pre have come. -/
def fillL (f : Nat → UInt8) (n : Nat) (pre : List (Fin n)) : List UInt8 := (List.range n).map fun j => if pre.any (fun x => x.1 == j) then f j else 0
theorem fillL_length (f : Nat → UInt8) (n : Nat) (pre : List (Fin n)) : (fillL f n pre).length = n := by simp [fillL]
theorem fillL_nil (f : Nat → UInt8) (n : Nat) : fillL f n [] = List.replicate n 0 := by
  apply List.ext_getElem
  · simp [fillL]
  · intro i h1 h2; simp [fillL]
theorem fillL_snoc (f : Nat → UInt8) (n : Nat) (pre : List (Fin n)) (x : Fin n) : fillL f n (pre ++ [x]) = (fillL f n pre).set x.1 (f x.1) := by
  apply List.ext_getElem
  · simp [fillL]
  · intro i h1 h2
    rw [List.getElem_set]
    by_cases h : x.1 = i
    · subst h; simp [fillL]
    · rw [if_neg h]; simp [fillL, h]
theorem fillL_all (f : Nat → UInt8) (n : Nat) : fillL f n (List.finRange n) = upto f n := by
  apply List.ext_getElem
  · simp [fillL, upto]
  · intro i h1 h2
    have hi : i < n := by simpa [fillL] using h1
    have : (List.finRange n).any (fun x => x.1 == i) = true := List.any_eq_true.2 ⟨⟨i, hi⟩, List.mem_finRange _, by simp⟩
    simp only [fillL, upto, List.getElem_map, List.getElem_range, this, if_true]

set_option maxRecDepth 100000 in
set_option maxHeartbeats 4000000 in
theorem clrAnd (o w : ByteArray) (W : World) (ho : o.size ≤ 140737488351232) (hw : w.size ≤ maxLen) :
    Calls Tryz.prog 94 #[.string o, .string w] W fun e W' => e = .returned (.string (andB o w)) ∧ Below W.heap.size W W' := by
  obtain ⟨i0, hi, hz0, hz1, hz2⟩ := info_parts Tryz.info_u8
  refine (callsIn_wide (n := 3)).1 ?_
  refine callsIn_of_wp_marks Tryz.func94 rfl trivial ?_ rfl
  simp only [Tryz.ntmps94, List.size_toArray, List.length_cons, List.length_nil, Nat.reduceAdd, Nat.reduceSub, Array.replicate_succ, Array.replicate_zero, List.push_toArray, List.append_toArray, List.nil_append, List.cons_append]
  gi_wp2_with (first
    | (gi_at_make; refine wpListIn_make_full _ rfl _ _ 108 rfl W.heap.size 5 i0 (.int .u8 0) 1 Tryz.underlying108 hi hz0 hz1 .i64 .i64 _ _ o.size rfl rfl rfl rfl (by rw [hz2]; omega) (by unfold maxLen; omega) (Nat.le_refl _) ?_; intro w1 hown hg1)
    | (refine ⟨trivial, ?_⟩; gi_at_call 95; refine (callsIn_wide.2 (places_any _ _ _ _)).mono ?_; rintro e w' ⟨rfl, rfl⟩))
  have hg2 : Below W.heap.size W w1 := (Below.refl _ _).grown hg1 (Nat.le_refl _) (fun k e => by cases e)
  have hgl := (hown.lt W.heap.size rfl).2
  rw [show madeCells (Value.int .u8 0).cells (o.size * 1) = madeCells #[.int .u8 0] o.size from by simp [Value.cells], toList_madeCells_one] at hown
  have hz : (fillL (andF (bl o) (bl w)) o.size []).map b8v = List.replicate o.size (.int .u8 0) := by rw [fillL_nil]; simp [b8v]
  rw [← hz] at hown
  clear hz
  have bO := (((Boxed.new w1 108 (.slice (some ⟨W.heap.size, 0, none⟩) o.size o.size)).alloc (.cells #[.string o] 9)).alloc (.cells #[.string w] 9)).alloc (.cells #[.string ⟨#[]⟩] 9)
  have b0 := ((Boxed.new (w1.alloc (.cells #[.slice (some ⟨W.heap.size, 0, none⟩) o.size o.size] 108)) 9 (.string o)).alloc (.cells #[.string w] 9)).alloc (.cells #[.string ⟨#[]⟩] 9)
  have b1 := (Boxed.new ((w1.alloc (.cells #[.slice (some ⟨W.heap.size, 0, none⟩) o.size o.size] 108)).alloc (.cells #[.string o] 9)) 9 (.string w)).alloc (.cells #[.string ⟨#[]⟩] 9)
  have b2 := Boxed.new (((w1.alloc (.cells #[.slice (some ⟨W.heap.size, 0, none⟩) o.size o.size] 108)).alloc (.cells #[.string o] 9)).alloc (.cells #[.string w] 9)) 9 (.string ⟨#[]⟩)
  simp only [World.size_alloc] at b0 b1 b2
  have hB0 := ((((hg2.alloc hg2.size (.cells #[.slice (some ⟨W.heap.size, 0, none⟩) o.size o.size] 108)).alloc (by have := hg2.size; simp; omega) (.cells #[.string o] 9)).alloc (by have := hg2.size; simp; omega) (.cells #[.string w] 9)).alloc (by have := hg2.size; simp; omega) (.cells #[.string ⟨#[]⟩] 9))
  have hown0 := (((hown.alloc (.cells #[.slice (some ⟨W.heap.size, 0, none⟩) o.size o.size] 108)).alloc (.cells #[.string o] 9)).alloc (.cells #[.string w] 9)).alloc (.cells #[.string ⟨#[]⟩] 9)
  have hsz : ((((w1.alloc (.cells #[.slice (some ⟨W.heap.size, 0, none⟩) o.size o.size] 108)).alloc (.cells #[.string o] 9)).alloc (.cells #[.string w] 9)).alloc (.cells #[.string ⟨#[]⟩] 9)).heap.size = w1.heap.size + 4 := by simp
  obtain ⟨W0, hW0⟩ : ∃ W0, (((w1.alloc (.cells #[.slice (some ⟨W.heap.size, 0, none⟩) o.size o.size] 108)).alloc (.cells #[.string o] 9)).alloc (.cells #[.string w] 9)).alloc (.cells #[.string ⟨#[]⟩] 9) = W0 := ⟨_, rfl⟩
  rw [hW0] at bO b0 b1 b2 hB0 hown0 hsz ⊢
  clear hW0 hown hg1 hg2
  obtain ⟨C, hC⟩ : ∃ C, w1.heap.size = C := ⟨_, rfl⟩
  rw [hC] at bO b0 b1 b2 hsz hgl ⊢
  clear hC
  have hgW := hB0.size
  refine wpIn_rangeFunc_ownH rfl (by omega) (gf := 124) (lb := #[.pointer (some ⟨C + 1, 0, none⟩), .pointer (some ⟨C + 1 + 1, 0, none⟩), .pointer (some ⟨C + 1 + 1 + 1, 0, none⟩)]) rfl trivial (enters_of Tryz.func124 (by kernel_rfl) rfl)
    (places_stops 2 (by omega) (C + 1) o w ⟨#[]⟩ ho hw (by decide) W0 b0 b1 b2) (fun h k => h.trans k) (KeepsAt.putObj (by omega)) (Below.refl _ _) (fun _ => rfl)
    (fun pre W' => (Boxed W' C 108 (.slice (some ⟨W.heap.size, 0, none⟩) o.size o.size) ∧ W'.ownsRow W.heap.size 5 1 (.slice (some ⟨W.heap.size, 0, none⟩) o.size o.size) o.size ((fillL (andF (bl o) (bl w)) o.size pre).map b8v) ∧ C + 4 ≤ W'.heap.size) ∧ Below W.heap.size W W')
    (fun _ _ _ => False)
    (OwnFrom.and (OwnFrom.and (Own.from (boxed_own _ _ _) _) (OwnFrom.and (fun s X Y row hs hg hr => hs.kept hg (.inr fun e => by
        have e2 : row = some W.heap.size := e.symm
        have := (hr _ e2).1; omega)) (fun s X Y row hs hg hr => Nat.le_trans hs hg.size))) (ownFrom_below (Nat.le_refl _) (by omega)))
    (fun _ _ _ _ _ hs _ _ => hs)
    ⟨⟨bO, hown0, by omega⟩, hB0⟩
    (fun x a' W' => ∃ Bx, C + 3 < Bx ∧ W'.heap[Bx]? = some (.cells #[.int .u8 ((o[x.1]'x.2).toNat : Int), .int .u8 ((gd (bl w) x.1 255).toNat : Int), .int .u8 ((gd (bl ⟨#[]⟩) x.1 0).toNat : Int)] 159 (0, 0)) ∧
      a' = { tmps := #[.string o, .string w, undef, undef, .string ⟨#[]⟩, .pointer (some ⟨C, 0, none⟩), .int .i64 (x.1 : Nat), .pointer (some ⟨Bx, 0, none⟩), .string o, .int .i64 o.size, .slice (some ⟨W.heap.size, 0, none⟩) o.size o.size, .string o, .string w,
        .func (.func 124) #[] #[.pointer (some ⟨C + 1, 0, none⟩), .pointer (some ⟨C + 1 + 1, 0, none⟩), .pointer (some ⟨C + 1 + 1 + 1, 0, none⟩)], .int .i64 (x.1 : Nat), .agg #[.int .u8 ((o[x.1]'x.2).toNat : Int), .int .u8 ((gd (bl w) x.1 255).toNat : Int), .int .u8 ((gd (bl ⟨#[]⟩) x.1 0).toNat : Int)], undef, undef, undef, undef, undef, undef, undef, undef, undef, undef], defers := [] })
    (fun x a' _ X Y row hs hg hr => by obtain ⟨Bx, h1, h2, h3⟩ := hs; exact ⟨Bx, h1, cells_own h2 hg (fun r e => (hr r e).2), h3⟩)
    ?assign ?body ?done ?stop
  case assign =>
    rintro l pre x W' K ⟨⟨bO1, hown1, hs1⟩, hB1⟩ hK
    dsimp only [encP]
    gi_wp2
    exact hK _ _ ((KeepsOthers.alloc _ _).from _) (fun b _ h2 => Below.heap_alloc _ _ _ (by omega)) ⟨⟨bO1.alloc _, hown1.alloc _, by simp; omega⟩, hB1.alloc hB1.size _⟩ ⟨W'.heap.size, by omega, World.alloc_heap_new _ _, rfl⟩
  case body =>
    rintro l pre x a' W' hl ⟨r, hr⟩ ⟨⟨bO1, hown1, hs1⟩, hB1⟩ ⟨Bx, hBx, hat, rfl⟩ hlt
    have cO := bO1.cell
    have c0 : W'.cell? ⟨Bx, 0, none⟩ = some (.int .u8 ((o[x.1]'x.2).toNat : Int)) := by rw [cell_of_row W' Bx 0 _ _ (0, 0) hat]; rfl
    have c1 : W'.cell? ⟨Bx, 1, none⟩ = some (.int .u8 ((gd (bl w) x.1 255).toNat : Int)) := by rw [cell_of_row W' Bx 1 _ _ (0, 0) hat]; rfl
    have hx := x.2
    have hx1 : (0 : Int) ≤ (x.1 : Int) := by omega
    have hx2 : ((x.1 : Nat) : Int) < (o.size : Int) := by omega
    have hfr := hown1.frozenAt x.1
    have hcx := hown1.cellAt x.1 (by omega)
    rw [List.getElem?_eq_getElem (by rw [List.length_map, fillL_length]; exact hx)] at hcx
    gi_wp2
    have hst := hown1.stored x.1 (.int .u8 ((band (o[x.1]'x.2) (gd (bl w) x.1 255)).toNat : Int))
    have hv : Value.int .u8 ((band (o[x.1]'x.2) (gd (bl w) x.1 255)).toNat : Int) = b8v (andF (bl o) (bl w) x.1) := by
      rw [andF, gd_in o x.1 0 x.2]; rfl
    refine ⟨(KeepsOthers.setCell _ _ _).from _, fun b h1 h2 => Below.heap_setCell _ _ _ _ (by simp; omega), ⟨⟨bO1.kept hst.2 (fun e => ?_), ?_, Nat.le_trans hs1 hst.2.size⟩, hB1.setCell (p := ⟨W.heap.size, x.1, none⟩) (Nat.le_refl _) _⟩⟩
    · have e2 : C = W.heap.size := Option.some.inj e
      omega
    · rw [fillL_snoc, List.map_set, ← hv]; exact hst.1
  case done =>
    rintro D ys W' hD rfl ⟨⟨bO1, hown1, hs1⟩, hB1⟩ hK
    have cO := bO1.cell
    rw [fillL_all] at hown1
    have hcv := owns_string (P := Tryz.prog) (src := 108) (dst := 9) Tryz.underlying108 Tryz.underlying5 Tryz.underlying9 hown1
    have e : bs (upto (andF (bl o) (bl w)) o.size) = andB o w := by rw [andB, andL, bl_length]
    rw [e] at hcv
    clear e
    gi_wp2
    refine ⟨by simp, .inl ⟨_, _, rfl, run_takeDeferred hK, ?_⟩⟩
    exact ⟨_, results_tmp rfl _ _ _, rfl, hB1.trans (belowK_b (w := W) (Nat.le_refl _) W' D _ _ (by omega) hK rfl rfl)⟩
  case stop =>
    rintro D c pre W _ _ h _
    exact h.elim

set_option maxRecDepth 100000 in
set_option maxHeartbeats 4000000 in
theorem clrTorn (o w m : ByteArray) (W : World) (ho : o.size ≤ 140737488351232) (hw : w.size ≤ maxLen) (hm : m.size ≤ maxLen) :
    Calls Tryz.prog 66 #[.string o, .string w, .string m] W fun e W' => e = .returned (.string (tornB o w m)) ∧ Below W.heap.size W W' := by
  obtain ⟨i0, hi, hz0, hz1, hz2⟩ := info_parts Tryz.info_u8
  refine (callsIn_wide (n := 3)).1 ?_
  refine callsIn_of_wp_marks Tryz.func66 rfl trivial ?_ rfl
  simp only [Tryz.ntmps66, List.size_toArray, List.length_cons, List.length_nil, Nat.reduceAdd, Nat.reduceSub, Array.replicate_succ, Array.replicate_zero, List.push_toArray, List.append_toArray, List.nil_append, List.cons_append]
  gi_wp2_with (first
    | (gi_at_make; refine wpListIn_make_full _ rfl _ _ 108 rfl W.heap.size 5 i0 (.int .u8 0) 1 Tryz.underlying108 hi hz0 hz1 .i64 .i64 _ _ o.size rfl rfl rfl rfl (by rw [hz2]; omega) (by unfold maxLen; omega) (Nat.le_refl _) ?_; intro w1 hown hg1)
    | (refine ⟨trivial, ?_⟩; gi_at_call 95; refine (callsIn_wide.2 (places_any _ _ _ _)).mono ?_; rintro e w' ⟨rfl, rfl⟩))
  have hg2 : Below W.heap.size W w1 := (Below.refl _ _).grown hg1 (Nat.le_refl _) (fun k e => by cases e)
  have hgl := (hown.lt W.heap.size rfl).2
  rw [show madeCells (Value.int .u8 0).cells (o.size * 1) = madeCells #[.int .u8 0] o.size from by simp [Value.cells], toList_madeCells_one] at hown
  have hz : (fillL (tornF (bl o) (bl w) (bl m)) o.size []).map b8v = List.replicate o.size (.int .u8 0) := by rw [fillL_nil]; simp [b8v]
  rw [← hz] at hown
  clear hz
  have bO := (((Boxed.new w1 108 (.slice (some ⟨W.heap.size, 0, none⟩) o.size o.size)).alloc (.cells #[.string o] 9)).alloc (.cells #[.string w] 9)).alloc (.cells #[.string m] 9)
  have b0 := ((Boxed.new (w1.alloc (.cells #[.slice (some ⟨W.heap.size, 0, none⟩) o.size o.size] 108)) 9 (.string o)).alloc (.cells #[.string w] 9)).alloc (.cells #[.string m] 9)
  have b1 := (Boxed.new ((w1.alloc (.cells #[.slice (some ⟨W.heap.size, 0, none⟩) o.size o.size] 108)).alloc (.cells #[.string o] 9)) 9 (.string w)).alloc (.cells #[.string m] 9)
  have b2 := Boxed.new (((w1.alloc (.cells #[.slice (some ⟨W.heap.size, 0, none⟩) o.size o.size] 108)).alloc (.cells #[.string o] 9)).alloc (.cells #[.string w] 9)) 9 (.string m)
  simp only [World.size_alloc] at b0 b1 b2
  have hB0 := ((((hg2.alloc hg2.size (.cells #[.slice (some ⟨W.heap.size, 0, none⟩) o.size o.size] 108)).alloc (by have := hg2.size; simp; omega) (.cells #[.string o] 9)).alloc (by have := hg2.size; simp; omega) (.cells #[.string w] 9)).alloc (by have := hg2.size; simp; omega) (.cells #[.string m] 9))
  have hown0 := (((hown.alloc (.cells #[.slice (some ⟨W.heap.size, 0, none⟩) o.size o.size] 108)).alloc (.cells #[.string o] 9)).alloc (.cells #[.string w] 9)).alloc (.cells #[.string m] 9)
  have hsz : ((((w1.alloc (.cells #[.slice (some ⟨W.heap.size, 0, none⟩) o.size o.size] 108)).alloc (.cells #[.string o] 9)).alloc (.cells #[.string w] 9)).alloc (.cells #[.string m] 9)).heap.size = w1.heap.size + 4 := by simp
  obtain ⟨W0, hW0⟩ : ∃ W0, (((w1.alloc (.cells #[.slice (some ⟨W.heap.size, 0, none⟩) o.size o.size] 108)).alloc (.cells #[.string o] 9)).alloc (.cells #[.string w] 9)).alloc (.cells #[.string m] 9) = W0 := ⟨_, rfl⟩
  rw [hW0] at bO b0 b1 b2 hB0 hown0 hsz ⊢
  clear hW0 hown hg1 hg2
  obtain ⟨C, hC⟩ : ∃ C, w1.heap.size = C := ⟨_, rfl⟩
  rw [hC] at bO b0 b1 b2 hsz hgl ⊢
  clear hC
  have hgW := hB0.size
  refine wpIn_rangeFunc_ownH rfl (by omega) (gf := 124) (lb := #[.pointer (some ⟨C + 1, 0, none⟩), .pointer (some ⟨C + 1 + 1, 0, none⟩), .pointer (some ⟨C + 1 + 1 + 1, 0, none⟩)]) rfl trivial (enters_of Tryz.func124 (by kernel_rfl) rfl)
    (places_stops 2 (by omega) (C + 1) o w m ho hw hm W0 b0 b1 b2) (fun h k => h.trans k) (KeepsAt.putObj (by omega)) (Below.refl _ _) (fun _ => rfl)
    (fun pre W' => (Boxed W' C 108 (.slice (some ⟨W.heap.size, 0, none⟩) o.size o.size) ∧ W'.ownsRow W.heap.size 5 1 (.slice (some ⟨W.heap.size, 0, none⟩) o.size o.size) o.size ((fillL (tornF (bl o) (bl w) (bl m)) o.size pre).map b8v) ∧ C + 4 ≤ W'.heap.size) ∧ Below W.heap.size W W')
    (fun _ _ _ => False)
    (OwnFrom.and (OwnFrom.and (Own.from (boxed_own _ _ _) _) (OwnFrom.and (fun s X Y row hs hg hr => hs.kept hg (.inr fun e => by
        have e2 : row = some W.heap.size := e.symm
        have := (hr _ e2).1; omega)) (fun s X Y row hs hg hr => Nat.le_trans hs hg.size))) (ownFrom_below (Nat.le_refl _) (by omega)))
    (fun _ _ _ _ _ hs _ _ => hs)
    ⟨⟨bO, hown0, by omega⟩, hB0⟩
    (fun x a' W' => ∃ Bx, C + 3 < Bx ∧ W'.heap[Bx]? = some (.cells #[.int .u8 ((o[x.1]'x.2).toNat : Int), .int .u8 ((gd (bl w) x.1 255).toNat : Int), .int .u8 ((gd (bl m) x.1 0).toNat : Int)] 159 (0, 0)) ∧
      a' = { tmps := #[.string o, .string w, .string m, undef, undef, undef, .string ⟨#[]⟩, .pointer (some ⟨C, 0, none⟩), .int .i64 (x.1 : Nat), .pointer (some ⟨Bx, 0, none⟩), .string o, .int .i64 o.size, .slice (some ⟨W.heap.size, 0, none⟩) o.size o.size, .string o, .string w, .string m,
        .func (.func 124) #[] #[.pointer (some ⟨C + 1, 0, none⟩), .pointer (some ⟨C + 1 + 1, 0, none⟩), .pointer (some ⟨C + 1 + 1 + 1, 0, none⟩)], .int .i64 (x.1 : Nat), .agg #[.int .u8 ((o[x.1]'x.2).toNat : Int), .int .u8 ((gd (bl w) x.1 255).toNat : Int), .int .u8 ((gd (bl m) x.1 0).toNat : Int)], undef, undef, undef, undef, undef, undef, undef, undef, undef, undef, undef, undef, undef, undef], defers := [] })
    (fun x a' _ X Y row hs hg hr => by obtain ⟨Bx, h1, h2, h3⟩ := hs; exact ⟨Bx, h1, cells_own h2 hg (fun r e => (hr r e).2), h3⟩)
    ?assign ?body ?done ?stop
  case assign =>
    rintro l pre x W' K ⟨⟨bO1, hown1, hs1⟩, hB1⟩ hK
    dsimp only [encP]
    gi_wp2
    exact hK _ _ ((KeepsOthers.alloc _ _).from _) (fun b _ h2 => Below.heap_alloc _ _ _ (by omega)) ⟨⟨bO1.alloc _, hown1.alloc _, by simp; omega⟩, hB1.alloc hB1.size _⟩ ⟨W'.heap.size, by omega, World.alloc_heap_new _ _, rfl⟩
  case body =>
    rintro l pre x a' W' hl ⟨r, hr⟩ ⟨⟨bO1, hown1, hs1⟩, hB1⟩ ⟨Bx, hBx, hat, rfl⟩ hlt
    have cO := bO1.cell
    have c0 : W'.cell? ⟨Bx, 0, none⟩ = some (.int .u8 ((o[x.1]'x.2).toNat : Int)) := by rw [cell_of_row W' Bx 0 _ _ (0, 0) hat]; rfl
    have c1 : W'.cell? ⟨Bx, 1, none⟩ = some (.int .u8 ((gd (bl w) x.1 255).toNat : Int)) := by rw [cell_of_row W' Bx 1 _ _ (0, 0) hat]; rfl
    have c2 : W'.cell? ⟨Bx, 2, none⟩ = some (.int .u8 ((gd (bl m) x.1 0).toNat : Int)) := by rw [cell_of_row W' Bx 2 _ _ (0, 0) hat]; rfl
    have hx := x.2
    have hx1 : (0 : Int) ≤ (x.1 : Int) := by omega
    have hx2 : ((x.1 : Nat) : Int) < (o.size : Int) := by omega
    have hfr := hown1.frozenAt x.1
    have hcx := hown1.cellAt x.1 (by omega)
    rw [List.getElem?_eq_getElem (by rw [List.length_map, fillL_length]; exact hx)] at hcx
    gi_wp2
    have hst := hown1.stored x.1 (.int .u8 ((band (o[x.1]'x.2) (bor (gd (bl w) x.1 255) (bnot (gd (bl m) x.1 0)))).toNat : Int))
    have hv : Value.int .u8 ((band (o[x.1]'x.2) (bor (gd (bl w) x.1 255) (bnot (gd (bl m) x.1 0)))).toNat : Int) = b8v (tornF (bl o) (bl w) (bl m) x.1) := by
      rw [tornF, gd_in o x.1 0 x.2, ← tb_eq]; rfl
    refine ⟨(KeepsOthers.setCell _ _ _).from _, fun b h1 h2 => Below.heap_setCell _ _ _ _ (by simp; omega), ⟨⟨bO1.kept hst.2 (fun e => ?_), ?_, Nat.le_trans hs1 hst.2.size⟩, hB1.setCell (p := ⟨W.heap.size, x.1, none⟩) (Nat.le_refl _) _⟩⟩
    · have e2 : C = W.heap.size := Option.some.inj e
      omega
    · rw [fillL_snoc, List.map_set, ← hv]; exact hst.1
  case done =>
    rintro D ys W' hD rfl ⟨⟨bO1, hown1, hs1⟩, hB1⟩ hK
    have cO := bO1.cell
    rw [fillL_all] at hown1
    have hcv := owns_string (P := Tryz.prog) (src := 108) (dst := 9) Tryz.underlying108 Tryz.underlying5 Tryz.underlying9 hown1
    have e : bs (upto (tornF (bl o) (bl w) (bl m)) o.size) = tornB o w m := by rw [tornB, tornL, bl_length]
    rw [e] at hcv
    clear e
    gi_wp2
    refine ⟨by simp, .inl ⟨_, _, rfl, run_takeDeferred hK, ?_⟩⟩
    exact ⟨_, results_tmp rfl _ _ _, rfl, hB1.trans (belowK_b (w := W) (Nat.le_refl _) W' D _ _ (by omega) hK rfl rfl)⟩
  case stop =>
    rintro D c pre W _ _ h _
    exact h.elim
end Go.Proofs.YthmpjoiifglbjaaGreat

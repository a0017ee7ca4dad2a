/- The program's May and Bits, and the library's count of a byte's bits: contracts only. -/
import Derived.Test.YtoemjfjmpmngeaaClear
namespace Go.Proofs.Ytoemjfjmpmngeaa
open Go.RowKit Go.Shelf
set_option linter.unusedVariables false
attribute [local go_sem] b8_and b8_or b8_andNot gdI_255 gdI_0 b8_xorAll Oper.semAt_some

set_option maxRecDepth 100000 in
set_option maxHeartbeats 4000000 in
theorem clrMay_len (o w g : ByteArray) (W : World) (ho : o.size ≤ maxLen) (hw : w.size ≤ maxLen) (hg : g.size ≤ maxLen) (hl : ¬ g.size = o.size) :
    Calls Try.prog 21 #[.string o, .string w, .string g] W fun e W' => e = .returned (.bool (mayL (bl o) (bl w) (bl g))) ∧ Below W.heap.size W W' := by
  have H5 := Lib.hid (mayL_no_len (bl o) (bl w) (bl g) (by rw [bl_length, bl_length]; exact hl))
  unfold maxLen at ho hw hg
  go_enter Try.func21, Try.ntmps21
  go_wp2
  all_goals exact bodyPost_ret (v := .bool false) (by simp [results, Try.results21, go_sem]) rfl ⟨ret_bool H5.out.symm, (Below.refl _ _).alloc (Nat.le_refl _) _⟩

set_option maxRecDepth 100000 in
set_option maxHeartbeats 4000000 in
theorem clrMay_same (o w g : ByteArray) (W : World) (ho : o.size ≤ 140737488351232) (hw : w.size ≤ maxLen) (hg : g.size ≤ maxLen) (hl : g.size = o.size) :
    Calls Try.prog 21 #[.string o, .string w, .string g] W fun e W' => e = .returned (.bool (mayL (bl o) (bl w) (bl g))) ∧ Below W.heap.size W W' := by
  refine (callsIn_wide (n := 3)).1 ?_
  refine callsIn_of_wp_marks Try.func21 rfl trivial ?_ rfl
  simp only [Try.ntmps21, List.size_toArray, List.length_cons, List.length_nil, Nat.reduceAdd, Nat.reduceSub, Array.replicate_succ, Array.replicate_zero, List.push_toArray, List.append_toArray, List.nil_append, List.cons_append]
  gi_wp2_with (refine ⟨trivial, ?_⟩; gi_at_call 38; refine (callsIn_wide.2 (places_any _ _ _ _)).mono ?_; rintro e w' ⟨rfl, rfl⟩)
  have bO := (((Boxed.new W 4 (.bool false)).alloc (.cells #[.string o] 9)).alloc (.cells #[.string w] 9)).alloc (.cells #[.string g] 9)
  have b0 := ((Boxed.new (W.alloc (.cells #[.bool false] 4)) 9 (.string o)).alloc (.cells #[.string w] 9)).alloc (.cells #[.string g] 9)
  have b1 := (Boxed.new ((W.alloc (.cells #[.bool false] 4)).alloc (.cells #[.string o] 9)) 9 (.string w)).alloc (.cells #[.string g] 9)
  have b2 := Boxed.new (((W.alloc (.cells #[.bool false] 4)).alloc (.cells #[.string o] 9)).alloc (.cells #[.string w] 9)) 9 (.string g)
  simp only [World.size_alloc] at b0 b1 b2
  have hB0 := (((((Below.refl W.heap.size W).alloc (Nat.le_refl _) (.cells #[.bool false] 4)).alloc (by simp) (.cells #[.string o] 9)).alloc (by simp; omega) (.cells #[.string w] 9)).alloc (by simp; omega) (.cells #[.string g] 9))
  have hsz : ((((W.alloc (.cells #[.bool false] 4)).alloc (.cells #[.string o] 9)).alloc (.cells #[.string w] 9)).alloc (.cells #[.string g] 9)).heap.size = W.heap.size + 4 := by simp
  obtain ⟨W0, hW0⟩ : ∃ W0, (((W.alloc (.cells #[.bool false] 4)).alloc (.cells #[.string o] 9)).alloc (.cells #[.string w] 9)).alloc (.cells #[.string g] 9) = W0 := ⟨_, rfl⟩
  rw [hW0] at bO b0 b1 b2 hB0 hsz ⊢
  clear hW0
  refine wpIn_rangeFunc_ownH rfl (by omega) (gf := 47) (lb := #[.pointer (some ⟨W.heap.size + 1, 0, none⟩), .pointer (some ⟨W.heap.size + 1 + 1, 0, none⟩), .pointer (some ⟨W.heap.size + 1 + 1 + 1, 0, none⟩)]) rfl trivial (enters_of Try.func47 (by kernel_rfl) rfl)
    (places_stops 2 (by omega) (W.heap.size + 1) o w g ho hw hg W0 b0 b1 b2) (fun h k => h.trans k) (KeepsAt.putObj (by omega)) (Below.refl _ _) (fun _ => rfl)
    (fun pre W' => (Boxed W' W.heap.size 4 (.bool false) ∧ (∀ x ∈ pre, mayF (bl o) (bl w) (bl g) x.1 = true) ∧ W.heap.size + 4 ≤ W'.heap.size) ∧ Below W.heap.size W W')
    (fun c pre W' => (c = .ret ∧ mayL (bl o) (bl w) (bl g) = false ∧ Boxed W' W.heap.size 4 (.bool false)) ∧ Below W.heap.size W W')
    (OwnFrom.and (OwnFrom.and (Own.from (boxed_own _ _ _) _) (OwnFrom.and (ownFrom_pure _ _) (fun s X Y row hs hg hr => Nat.le_trans hs hg.size))) (ownFrom_below (Nat.le_refl _) (by omega)))
    (fun c => OwnFrom.and (OwnFrom.and (ownFrom_pure _ _) (OwnFrom.and (ownFrom_pure _ _) (Own.from (boxed_own _ _ _) _))) (ownFrom_below (Nat.le_refl _) (by omega)))
    ⟨⟨bO, (fun x hx => by cases hx), by omega⟩, hB0⟩
    (fun x a' W' => ∃ Bx, W.heap.size + 3 < Bx ∧ W'.heap[Bx]? = some (.cells #[.int .u8 ((o[x.1]'x.2).toNat : Int), .int .u8 ((gd (bl w) x.1 255).toNat : Int), .int .u8 ((gd (bl g) x.1 0).toNat : Int)] 54 (0, 0)) ∧
      a' = { tmps := #[.string o, .string w, .string g, undef, undef, undef, .pointer (some ⟨W.heap.size, 0, none⟩), undef, .pointer (some ⟨Bx, 0, none⟩), undef, undef, .string g, .int .i64 g.size, .string o, .int .i64 o.size, .bool false, .string o, .string w, .string g,
        .func (.func 47) #[] #[.pointer (some ⟨W.heap.size + 1, 0, none⟩), .pointer (some ⟨W.heap.size + 1 + 1, 0, none⟩), .pointer (some ⟨W.heap.size + 1 + 1 + 1, 0, none⟩)], .int .i64 (x.1 : Nat), .agg #[.int .u8 ((o[x.1]'x.2).toNat : Int), .int .u8 ((gd (bl w) x.1 255).toNat : Int), .int .u8 ((gd (bl g) x.1 0).toNat : Int)], undef, undef, undef, undef, undef, undef, undef, undef, undef, undef, undef, undef, undef, undef, undef, undef, undef], defers := [] })
    (fun x a' _ X Y row hs hg hr => by obtain ⟨Bx, h1, h2, h3⟩ := hs; exact ⟨Bx, h1, cells_own h2 hg (fun r e => (hr r e).2), h3⟩)
    ?assign ?body ?done ?stop
  case assign =>
    rintro l pre x W' K ⟨⟨bO1, hp1, hs1⟩, hB1⟩ hK
    dsimp only [encP]
    gi_wp2
    exact hK _ _ ((KeepsOthers.alloc _ _).from _) (fun b _ h2 => Below.heap_alloc _ _ _ (by omega)) ⟨⟨bO1.alloc _, hp1, by simp; omega⟩, hB1.alloc hB1.size _⟩ ⟨W'.heap.size, by omega, World.alloc_heap_new _ _, by simp [hl]⟩
  case body =>
    rintro l pre x a' W' hl ⟨r, hr⟩ ⟨⟨bO1, hp1, hs1⟩, hB1⟩ ⟨Bx, hBx, hat, rfl⟩ hlt
    have cO := bO1.cell
    have fO := bO1.frozen
    have c0 : W'.cell? ⟨Bx, 0, none⟩ = some (.int .u8 ((o[x.1]'x.2).toNat : Int)) := by rw [cell_of_row W' Bx 0 _ _ (0, 0) hat]; rfl
    have c1 : W'.cell? ⟨Bx, 1, none⟩ = some (.int .u8 ((gd (bl w) x.1 255).toNat : Int)) := by rw [cell_of_row W' Bx 1 _ _ (0, 0) hat]; rfl
    have c2 : W'.cell? ⟨Bx, 2, none⟩ = some (.int .u8 ((gd (bl g) x.1 0).toNat : Int)) := by rw [cell_of_row W' Bx 2 _ _ (0, 0) hat]; rfl
    have Hp := Lib.hid hp1
    clear hp1 hl
    have hF : mayF (bl o) (bl w) (bl g) x.1 = mayB (o[x.1]'x.2) (gd (bl w) x.1 255) (gd (bl g) x.1 0) := by rw [mayF_eq, gd_in o x.1 0 x.2]
    have HF := Lib.hid hF
    clear hF
    gi_wp2
    · have ht : (((bor (bandn (gd (bl g) x.1 0) (o[x.1]'x.2)) (bandn (band (o[x.1]'x.2) (gd (bl w) x.1 255)) (gd (bl g) x.1 0))).toNat : Int) != 0) = true := by assumption
      have h4 : mayF (bl o) (bl w) (bl g) x.1 = false := by rw [HF.out]; exact mayB_of_true ht
      exact ⟨(KeepsOthers.setCell _ _ _).from _, ⟨rfl, mayL_no_at _ _ _ x.1 (by rw [bl_length]; exact x.2) h4, bO1.set _⟩, hB1.setCell (p := ⟨W.heap.size, 0, none⟩) (Nat.le_refl _) _⟩
    · have ht : (((bor (bandn (gd (bl g) x.1 0) (o[x.1]'x.2)) (bandn (band (o[x.1]'x.2) (gd (bl w) x.1 255)) (gd (bl g) x.1 0))).toNat : Int) != 0) = false := by assumption
      have h4 : mayF (bl o) (bl w) (bl g) x.1 = true := by rw [HF.out]; exact mayB_of_false ht
      refine ⟨KeepsFrom.refl _ _, KeepsAt.refl _ _, ⟨bO1, fun y hy => ?_, hs1⟩, hB1⟩
      rcases List.mem_append.1 hy with hy | hy
      · exact Hp.out y hy
      · rw [List.mem_singleton.1 hy]; exact h4
  case done =>
    rintro D ys W' hD rfl ⟨⟨bO1, hp1, hs1⟩, hB1⟩ hK
    have H5 := Lib.hid ((mayL_iff (bl o) (bl w) (bl g)).2 ⟨by rw [bl_length, bl_length]; exact hl, fun i hi => hp1 ⟨i, by rw [bl_length] at hi; exact hi⟩ (List.mem_finRange _)⟩)
    clear hp1
    have cO := bO1.cell
    have fO := bO1.frozen
    gi_wp2
    have hK' := (KeepsOthers.setCell W' ⟨W.heap.size, 0, none⟩ (.bool true)).same D _ hK rfl
    refine ⟨by simp, .inl ⟨_, _, rfl, run_takeDeferred hK', ?_⟩⟩
    have hc5 := cell_kept (World.cell?_setCell_same' W' ⟨W.heap.size, 0, none⟩ (.bool true) (by rw [cO]; rfl)) (grownBy_putObj' _ D (.deferred none)) (fun r e => by cases e; exact ⟨_, hK', rfl⟩)
    refine ⟨.bool true, ?_, ret_bool H5.out.symm, (hB1.setCell (p := ⟨W.heap.size, 0, none⟩) (Nat.le_refl _) _).trans (belowK_b (w := W) (Nat.le_refl _) _ D _ _ (by omega) hK' rfl rfl)⟩
    simp [results, Try.f21, go_sem, hc5]
  case stop =>
    rintro D c pre W' hD hpre ⟨⟨rfl, hm, bO1⟩, hB1⟩ hK
    have H5 := Lib.hid hm
    clear hm
    gi_wp2
    refine ⟨by simp, .inl ⟨_, _, rfl, run_takeDeferred hK, ?_⟩⟩
    have hc5 := cell_kept bO1.cell (grownBy_putObj' _ D (.deferred none)) (fun r e => by cases e; exact ⟨_, hK, rfl⟩)
    refine ⟨.bool false, ?_, ret_bool H5.out.symm, hB1.trans (belowK_b (w := W) (Nat.le_refl _) W' D _ _ (by omega) hK rfl rfl)⟩
    simp [results, Try.f21, go_sem, hc5]

theorem clrMay (o w g : ByteArray) (W : World) (ho : o.size ≤ 140737488351232) (hw : w.size ≤ maxLen) (hg : g.size ≤ maxLen) :
    Calls Try.prog 21 #[.string o, .string w, .string g] W fun e W' => e = .returned (.bool (mayL (bl o) (bl w) (bl g))) ∧ Below W.heap.size W W' := by
  by_cases hl : g.size = o.size
  · exact clrMay_same o w g W ho hw hg hl
  · exact clrMay_len o w g W (by unfold maxLen; omega) hw hg hl

theorem all_u8 {p : UInt8 → Prop} (h : ∀ n : Fin 256, p (UInt8.ofNat n.1)) (x : UInt8) : p x := by
  have := h ⟨x.toNat, x.toNat_lt⟩
  rwa [UInt8.ofNat_toNat] at this

set_option maxRecDepth 100000 in
theorem ones_any (x : UInt8) (W : World) :
    Calls Try.prog 40 #[.int .u8 x.toNat] W fun e W' => e = .returned (.int .i64 (pop x)) ∧ W = W' := by
  have hx := x.toNat_lt
  go_enter Try.func40, Try.ntmps40
  go_wp2
  go_ret
  refine ⟨ret_int ?_, rfl⟩
  rw [← gd_in _ _ 0 (by exact hx)]
  exact all_u8 (p := fun x => wrap64 ((gd (bl _) x.toNat 0).toNat : Int) = ((pop x : Nat) : Int)) (by decide +kernel) x

/-- What the places of pre count. -/
def sumB (o g : List UInt8) {n : Nat} (pre : List (Fin n)) : Nat := (pre.map fun x => bitsF o g x.1).sum
theorem sumB_snoc (o g : List UInt8) {n : Nat} (pre : List (Fin n)) (x : Fin n) : sumB o g (pre ++ [x]) = sumB o g pre + bitsF o g x.1 := by simp [sumB]
theorem sumB_le (o g : List UInt8) {n : Nat} (pre : List (Fin n)) : sumB o g pre ≤ 8 * pre.length := by
  induction pre with
  | nil => simp [sumB]
  | cons x pre ih =>
    have := pop_le (bandn (gd o x.1 0) (gd g x.1 255))
    have h2 : sumB o g (x :: pre) = bitsF o g x.1 + sumB o g pre := by simp [sumB]
    rw [h2]; simp only [List.length_cons]; unfold bitsF; omega
theorem sumB_all (o g : List UInt8) (n : Nat) : sumB o g (List.finRange n) = bitsTo o g n := by
  unfold sumB bitsTo
  congr 1
  apply List.ext_getElem
  · simp
  · intro i h1 h2; simp

set_option maxRecDepth 100000 in
set_option maxHeartbeats 4000000 in
theorem clrBits (o g : ByteArray) (W : World) (ho : o.size ≤ 140737488351232) (hg : g.size ≤ maxLen) :
    Calls Try.prog 23 #[.string o, .string g] W fun e W' => e = .returned (.int .i64 (bitsL (bl o) (bl g))) ∧ Below W.heap.size W W' := by
  refine (callsIn_wide (n := 3)).1 ?_
  refine callsIn_of_wp_marks Try.func23 rfl trivial ?_ rfl
  simp only [Try.ntmps23, List.size_toArray, List.length_cons, List.length_nil, Nat.reduceAdd, Nat.reduceSub, Array.replicate_succ, Array.replicate_zero, List.push_toArray, List.append_toArray, List.nil_append, List.cons_append]
  gi_wp2_with (refine ⟨trivial, ?_⟩; gi_at_call 38; refine (callsIn_wide.2 (places_any _ _ _ _)).mono ?_; rintro e w' ⟨rfl, rfl⟩)
  have bO := (((Boxed.new W 3 (.int .i64 0)).alloc (.cells #[.string o] 9)).alloc (.cells #[.string g] 9)).alloc (.cells #[.string ⟨#[]⟩] 9)
  have b0 := ((Boxed.new (W.alloc (.cells #[.int .i64 0] 3)) 9 (.string o)).alloc (.cells #[.string g] 9)).alloc (.cells #[.string ⟨#[]⟩] 9)
  have b1 := (Boxed.new ((W.alloc (.cells #[.int .i64 0] 3)).alloc (.cells #[.string o] 9)) 9 (.string g)).alloc (.cells #[.string ⟨#[]⟩] 9)
  have b2 := Boxed.new (((W.alloc (.cells #[.int .i64 0] 3)).alloc (.cells #[.string o] 9)).alloc (.cells #[.string g] 9)) 9 (.string ⟨#[]⟩)
  simp only [World.size_alloc] at b0 b1 b2
  have hB0 := (((((Below.refl W.heap.size W).alloc (Nat.le_refl _) (.cells #[.int .i64 0] 3)).alloc (by simp) (.cells #[.string o] 9)).alloc (by simp; omega) (.cells #[.string g] 9)).alloc (by simp; omega) (.cells #[.string ⟨#[]⟩] 9))
  have hsz : ((((W.alloc (.cells #[.int .i64 0] 3)).alloc (.cells #[.string o] 9)).alloc (.cells #[.string g] 9)).alloc (.cells #[.string ⟨#[]⟩] 9)).heap.size = W.heap.size + 4 := by simp
  obtain ⟨W0, hW0⟩ : ∃ W0, (((W.alloc (.cells #[.int .i64 0] 3)).alloc (.cells #[.string o] 9)).alloc (.cells #[.string g] 9)).alloc (.cells #[.string ⟨#[]⟩] 9) = W0 := ⟨_, rfl⟩
  rw [hW0] at bO b0 b1 b2 hB0 hsz ⊢
  clear hW0
  refine wpIn_rangeFunc_ownH rfl (by omega) (gf := 47) (lb := #[.pointer (some ⟨W.heap.size + 1, 0, none⟩), .pointer (some ⟨W.heap.size + 1 + 1, 0, none⟩), .pointer (some ⟨W.heap.size + 1 + 1 + 1, 0, none⟩)]) rfl trivial (enters_of Try.func47 (by kernel_rfl) rfl)
    (places_stops 2 (by omega) (W.heap.size + 1) o g ⟨#[]⟩ ho hg (by decide) W0 b0 b1 b2) (fun h k => h.trans k) (KeepsAt.putObj (by omega)) (Below.refl _ _) (fun _ => rfl)
    (fun pre W' => (Boxed W' W.heap.size 3 (.int .i64 (sumB (bl o) (bl g) pre)) ∧ W.heap.size + 4 ≤ W'.heap.size) ∧ Below W.heap.size W W')
    (fun _ _ _ => False)
    (OwnFrom.and (OwnFrom.and (Own.from (boxed_own _ _ _) _) (fun s X Y row hs hg hr => Nat.le_trans hs hg.size)) (ownFrom_below (Nat.le_refl _) (by omega)))
    (fun _ _ _ _ _ hs _ _ => hs)
    ⟨⟨bO, by omega⟩, hB0⟩
    (fun x a' W' => ∃ Bx, W.heap.size + 3 < Bx ∧ W'.heap[Bx]? = some (.cells #[.int .u8 ((o[x.1]'x.2).toNat : Int), .int .u8 ((gd (bl g) x.1 255).toNat : Int), .int .u8 ((gd (bl ⟨#[]⟩) x.1 0).toNat : Int)] 54 (0, 0)) ∧
      a' = { tmps := #[.string o, .string g, undef, undef, .int .i64 0, .pointer (some ⟨W.heap.size, 0, none⟩), undef, .pointer (some ⟨Bx, 0, none⟩), .string o, .string g,
        .func (.func 47) #[] #[.pointer (some ⟨W.heap.size + 1, 0, none⟩), .pointer (some ⟨W.heap.size + 1 + 1, 0, none⟩), .pointer (some ⟨W.heap.size + 1 + 1 + 1, 0, none⟩)], .int .i64 (x.1 : Nat), .agg #[.int .u8 ((o[x.1]'x.2).toNat : Int), .int .u8 ((gd (bl g) x.1 255).toNat : Int), .int .u8 ((gd (bl ⟨#[]⟩) x.1 0).toNat : Int)], undef, undef, undef, undef, undef, undef, undef, undef, undef], defers := [] })
    (fun x a' _ X Y row hs hg hr => by obtain ⟨Bx, h1, h2, h3⟩ := hs; exact ⟨Bx, h1, cells_own h2 hg (fun r e => (hr r e).2), h3⟩)
    ?assign ?body ?done ?stop
  case assign =>
    rintro l pre x W' K ⟨⟨bO1, hs1⟩, hB1⟩ hK
    dsimp only [encP]
    gi_wp2
    exact hK _ _ ((KeepsOthers.alloc _ _).from _) (fun b _ h2 => Below.heap_alloc _ _ _ (by omega)) ⟨⟨bO1.alloc _, by simp; omega⟩, hB1.alloc hB1.size _⟩ ⟨W'.heap.size, by omega, World.alloc_heap_new _ _, rfl⟩
  case body =>
    rintro l pre x a' W' hl ⟨r, hr⟩ ⟨⟨bO1, hs1⟩, hB1⟩ ⟨Bx, hBx, hat, rfl⟩ hlt
    have cO := bO1.cell
    have fO := bO1.frozen
    have c0 : W'.cell? ⟨Bx, 0, none⟩ = some (.int .u8 ((o[x.1]'x.2).toNat : Int)) := by rw [cell_of_row W' Bx 0 _ _ (0, 0) hat]; rfl
    have c1 : W'.cell? ⟨Bx, 1, none⟩ = some (.int .u8 ((gd (bl g) x.1 255).toNat : Int)) := by rw [cell_of_row W' Bx 1 _ _ (0, 0) hat]; rfl
    have hsb := sumB_le (bl o) (bl g) pre
    have hpo := pop_le (bandn (o[x.1]'x.2) (gd (bl g) x.1 255))
    gi_wp2_with fail
    have hwr : IntKind.i64.wrap (((sumB (bl o) (bl g) pre : Nat) : Int) + ((pop (bandn (o[x.1]'x.2) (gd (bl g) x.1 255)) : Nat) : Int)) = ((sumB (bl o) (bl g) (pre ++ [x]) : Nat) : Int) := by
      rw [sumB_snoc, bitsF, gd_in o x.1 0 x.2, IntKind.wrap_i64]; omega
    have HW := Lib.hid hwr
    clear hwr
    refine wpIn_mono (Q := fun e _ w2 => e = Exit.normal ∧ w2 = (W'.setCell ⟨W.heap.size, 0, none⟩ (.int .i64 (IntKind.i64.wrap (((sumB (bl o) (bl g) pre : Nat) : Int) + ((pop (bandn (o[x.1]'x.2) (gd (bl g) x.1 255)) : Nat) : Int))))).drew) ?_ ?_
    · gi_region_with (refine ⟨trivial, ?_⟩; gi_at_call 40; refine (CallsIn.inRound l (callsIn_wide.2 (ones_any _ _))).mono ?_; rintro e w' ⟨rfl, rfl⟩)
      all_goals exact ⟨rfl, rfl⟩
    · rintro e a2 w2 ⟨rfl, rfl⟩
      rw [HW.out]
      exact ⟨((KeepsOthers.setCell W' _ _).trans (KeepsOthers.drew _)).from _, fun b h1 h2 => Below.heap_setCell _ _ _ _ (by simp; omega), ⟨bO1.set _, Nat.le_trans hs1 (KeepsWalks.setCell W' _ _).size⟩, (hB1.setCell (p := ⟨W.heap.size, 0, none⟩) (Nat.le_refl _) _).drew⟩
  case done =>
    rintro D ys W' hD rfl ⟨⟨bO1, hs1⟩, hB1⟩ hK
    rw [sumB_all, show bitsTo (bl o) (bl g) o.size = bitsL (bl o) (bl g) from by rw [bitsL, bl_length]] at bO1
    have cO := bO1.cell
    gi_wp2
    refine ⟨by simp, .inl ⟨_, _, rfl, run_takeDeferred hK, ?_⟩⟩
    exact ⟨_, results_tmp rfl _ _ _, rfl, hB1.trans (belowK_b (w := W) (Nat.le_refl _) W' D _ _ (by omega) hK rfl rfl)⟩
  case stop =>
    rintro D c pre W _ _ h _
    exact h.elim
end Go.Proofs.Ytoemjfjmpmngeaa

/- The program's iterator over a bank's places: contracts only. -/
import Derived.RangeFuncNested
import Derived.RangeFuncBound
import Derived.RangeFuncCalls
import Derived.RangeFuncLeaves
import Derived.RangeFuncBox
import Derived.Shelf.Abstract
import Derived.Shelf.RegionOpen
import Derived.WalkKit
import Derived.OwnWalkIn
import Derived.TacticsInMore
import Derived.LoopNIn
import Derived.LoopIn
import Derived.Stop.RegionWithIn
import Derived.Deep.RegionHeld3
import Derived.Maps.AppendAt
import Derived.Lib.Hide
import Derived.ProofKit
import Derived.Test.YthmpjoiifglbjaaGreatLayoutOwn
import Derived.Test.YthmpjoiifglbjaaGreatBankPlain
namespace Go.Proofs.YthmpjoiifglbjaaGreat
open Go.RowKit Go.Shelf
set_option linter.unusedVariables false
set_option linter.unusedSimpArgs false
attribute [local go_sem] Oper.semAt_some

/-- The two boxes from B on lie as they lay. -/
def Keeps2 (B : Nat) (W W' : World) : Prop := ∀ b, B ≤ b → b < B + 2 → W'.heap[b]? = W.heap[b]?
theorem Keeps2.refl (B : Nat) (W : World) : Keeps2 B W W := fun _ _ _ => rfl
theorem Keeps2.trans {B : Nat} {X Y Z : World} (h : Keeps2 B X Y) (k : Keeps2 B Y Z) : Keeps2 B X Z := fun b h1 h2 => (k b h1 h2).trans (h b h1 h2)
theorem Keeps2.putObj {B : Nat} {w : World} (hB : B + 2 ≤ w.heap.size) (W : World) (l : Nat) (o o' : Obj) (hl : w.heap.size ≤ l) (_ : W.heap[l]? = some o) (_ : o.isCells = false) (_ : o.isWalk = false) : Keeps2 B W (W.putObj l o') :=
  fun b _ h2 => World.putObj_heap_other (by omega)
theorem Keeps2.box {B : Nat} {W W' : World} (h : Keeps2 B W W') {b : Nat} {t : TypeId} {v : Value} (h1 : B ≤ b) (h2 : b < B + 2) (hb : Boxed W b t v) : Boxed W' b t v := (h b h1 h2).trans hb
/-- The places that a text has. -/
def placesL (s : ByteArray) : List Nat := if slotsF s.size = 0 then [] else List.range ((slotsF s.size).toNat + 1)

theorem below_of_same {P : Program} {g : Nat} {a : Array Value} {W : World} {v : Value} (h : Calls P g a W fun e W' => e = .returned v ∧ W' = W) : Calls P g a W fun e W' => e = .returned v ∧ Below W.heap.size W W' :=
  h.mono (fun e w' h => ⟨h.1, by rw [h.2]; exact Below.refl _ _⟩)

set_option maxRecDepth 100000 in
set_option maxHeartbeats 4000000 in
theorem bankPart (s : ByteArray) (k : Nat) (W : World) (hs : s.size ≤ maxLen) (h0 : slotsF s.size ≠ 0) (hk : (k : Int) ≤ slotsF s.size) :
    Calls Tryz.prog 134 #[.string s, .int .i64 (k : Int)] W fun e W' => e = .returned (.string (slotT s (k : Int))) ∧ W' = W := by
  have hz := slots_size h0
  have T1 := Lib.hid (fun (V : World) => lay05At (k : Int) V)
  rw [atF_in (k := (k : Int)) (by omega), show (24 : Int) * (k : Int) = ((24 * k : Nat) : Int) from by omega] at T1
  have H1 := Lib.hid (slotT_in h0 hk)
  have hz1 : 24 * k + 24 ≤ s.size := by omega
  have q1 : (24 : Int) * (k : Int) + 24 ≤ (s.size : Int) := by omega
  have q2 : (0 : Int) ≤ 24 * (k : Int) + 24 := by omega
  have q3 : (0 : Int) ≤ 24 * (k : Int) := by omega
  have q4 : (24 : Int) * (k : Int) ≤ 24 * (k : Int) + 24 := by omega
  clear h0 hk hz hz1
  unfold maxLen at hs
  go_enter Tryz.func134, Tryz.ntmps134
  go_wp2_with fail
  refine (T1.out _).mono ?_
  rintro e w' ⟨rfl, rfl⟩
  go_wp2_with fail
  go_ret
  exact ⟨by rw [H1.out]; rfl, rfl⟩

theorem placesS_any (s : ByteArray) (W : World) :
    Calls Tryz.prog 133 #[.string s, .func (.func 134) #[] #[]] W fun e W' =>
      e = .returned (.func (.func 141) #[] #[.pointer (some ⟨W.heap.size, 0, none⟩), .pointer (some ⟨W.heap.size + 1, 0, none⟩)]) ∧
      W' = (W.alloc (.cells #[.string s] 9)).alloc (.cells #[.func (.func 134) #[] #[]] 107) := by
  go_enter Tryz.func133, Tryz.ntmps133
  go_wp2
  go_ret
  exact ⟨by simp, rfl⟩

set_option maxRecDepth 100000 in
set_option maxHeartbeats 4000000 in
theorem placesS_stops (n : Nat) (hn : 2 ≤ n) (B : Nat) (s : ByteArray) (hs : s.size ≤ maxLen)
    (w0 : World) (b0 : Boxed w0 B 9 (.string s)) (b1 : Boxed w0 (B + 1) 107 (.func (.func 134) #[] #[])) :
    SeqStopsK Fence.wide n Tryz.prog 141 #[.pointer (some ⟨B, 0, none⟩), .pointer (some ⟨B + 1, 0, none⟩)]
      (fun x : Nat => #[.int .i64 (x : Int), .string (slotT s (x : Int))]) (Keeps2 B) (fun ys => ys = placesL s) (fun _ => True) 13 w0 := by
  intro l J Jx W hW hJ hJx hY h0
  have hlt1 := b1.lt
  have h1 : 1 ≤ n := by omega
  have k0 : Keeps2 B w0 W := fun b h1 h2 => hW.block b (by omega)
  have hsl := slots_le s.size
  have TC := Lib.hid (fun (V : World) => lay05Slots s.size V)
  refine callsIn_of_wp Tryz.func141 rfl trivial ?_ rfl
  simp only [Tryz.ntmps141, List.size_toArray, List.length_cons, List.length_nil, Nat.reduceAdd, Nat.reduceSub, Array.replicate_succ, Array.replicate_zero, List.push_toArray, List.append_toArray, List.nil_append, List.cons_append]
  have c0 := (k0.box (b := B) (by omega) (by omega) b0).cell
  by_cases hz : slotsF s.size = 0
  · have HE := Lib.hid (show placesL s = [] from if_pos hz)
    rw [hz] at TC
    gi_wp2_with (first | (refine ⟨trivial, ?_⟩; gi_at_call 54; refine (callsIn_wide.2 (TC.out _)).mono ?_; rintro e w' ⟨rfl, rfl⟩) | fail)
    refine bodyPost_ret (results_none rfl _ _ _) rfl ?_
    exact ⟨⟨_, rfl⟩, .inl ⟨_, HE.out.symm, h0⟩⟩
  · have HE := Lib.hid (show placesL s = List.range ((slotsF s.size).toNat + 1) from if_neg hz)
    obtain ⟨m, hm⟩ : ∃ m : Nat, slotsF s.size = (m : Int) := ⟨(slotsF s.size).toNat, by omega⟩
    have HZ := Lib.hid hz
    rw [hm] at TC HE hz hsl
    have hz0 : ((m : Int) == 0) = false := by simpa using hz
    gi_wp2_with (first | (refine ⟨trivial, ?_⟩; gi_at_call 54; refine (callsIn_wide.2 (TC.out _)).mono ?_; rintro e w' ⟨rfl, rfl⟩) | fail)
    clear c0 hz hz0
    gi_loopw [5] (fun i wr => ∃ k : Nat, k ≤ m + 1 ∧ i = .int .i64 k ∧ J (List.range k) wr ∧ Keeps2 B w0 wr)
      (fun i _ => m + 1 - (intOf i).toNat)
    case atStart => exact ⟨0, Nat.zero_le _, rfl, h0, k0⟩
    case round =>
      obtain ⟨k, hk, rfl, hJs, hK⟩ := hrel
      by_cases hlt : k ≤ m
      · have c0 := (hK.box (b := B) (by omega) (by omega) b0).cell
        have c1 := (hK.box (b := B + 1) (by omega) (by omega) b1).cell
        have hbz := (hK.box (b := B + 1) (by omega) (by omega) b1).lt
        have CK := Lib.hid (fun (V : World) => below_of_same (bankPart s k V hs HZ.out (by omega)))
        have HY := Lib.hid hY
        clear hY
        gi_wp2_with (first
          | (refine ⟨trivial, ?_⟩; gi_at_call 134; refine (callsIn_wide.2 (CK.out _)).mono ?_; rintro e V ⟨rfl, hk2⟩
             have hb : Below wr.heap.size wr V := ⟨hk2.os, hk2.tape, hk2.output, hk2.size, hk2.block⟩
             have hJ2 : J (List.range k) V := hJ _ wr _ none hJs ⟨hb.os, hb.tape, hb.output, hb.size, fun b h _ => hb.block b h⟩ (fun r e => by cases e)
             have hK2 : Keeps2 B w0 V := hK.trans (fun b h1 h2 => hb.block b (by omega))
             obtain ⟨fn, tmps, assign, body, hy, hR⟩ := HY.out (List.range k) k V hJ2 (by simp; omega)
             clear hk2 hb hJ2 hJs hK c0 c1 hbz)
          | fail)
        refine hR.mono ?_
        rintro e W3 (⟨rfl, hJ3, hk3⟩ | ⟨rfl, hJx3⟩)
        · gi_wp2
          go_roundw
          case rel => exact ⟨k + 1, by omega, by simp, by rw [List.range_succ]; exact hJ3, hK2.trans hk3⟩
          case measure => simp [intOf]; omega
        · gi_wp2
          refine bodyPost_ret (results_none rfl _ _ _) rfl ?_
          exact ⟨⟨_, rfl⟩, .inr ⟨_, trivial, hJx3⟩⟩
      · obtain rfl : k = m + 1 := by omega
        gi_wp2
        go_end0
        exact ⟨⟨_, rfl⟩, .inl ⟨_, rfl, by rw [HE.out]; exact hJs⟩⟩

theorem slot_none {s : ByteArray} {i : Int} (h : ∀ x ∈ placesL s, (x : Int) ≠ i) : slotT s i = ⟨#[]⟩ := by
  refine slotT_out fun ⟨h0, h1, h2⟩ => ?_
  refine h i.toNat ?_ (by omega)
  unfold placesL; rw [if_neg h0]; exact List.mem_range.2 (by omega)

set_option maxRecDepth 100000 in
set_option maxHeartbeats 4000000 in
theorem own08Slot (s : ByteArray) (i : Int) (W : World) (hs : s.size ≤ maxLen) (hi : -9223372036854775808 ≤ i ∧ i ≤ 9223372036854775807) :
    Calls Tryz.prog 113 #[.string s, .int .i64 i] W fun e W' => e = .returned (.string (slotT s i)) ∧ Below W.heap.size W W' := by
  refine (callsIn_wide (n := 3)).1 ?_
  refine callsIn_of_wp_marks Tryz.func113 rfl trivial ?_ rfl
  simp only [Tryz.ntmps113, List.size_toArray, List.length_cons, List.length_nil, Nat.reduceAdd, Nat.reduceSub, Array.replicate_succ, Array.replicate_zero, List.push_toArray, List.append_toArray, List.nil_append, List.cons_append]
  gi_wp2_with (refine ⟨trivial, ?_⟩; gi_at_call 133; refine (callsIn_wide.2 (placesS_any _ _)).mono ?_; rintro e w' ⟨rfl, rfl⟩)
  have b0 := ((((Boxed.new W 3 (.int .i64 i)).alloc (.cells #[.string ⟨#[]⟩] 9)).alloc (.cells #[.string s] 9)).alloc (.cells #[.func (.func 134) #[] #[]] 107))
  have b1 := (((Boxed.new (W.alloc (.cells #[.int .i64 i] 3)) 9 (.string ⟨#[]⟩)).alloc (.cells #[.string s] 9)).alloc (.cells #[.func (.func 134) #[] #[]] 107))
  have b2 := ((Boxed.new ((W.alloc (.cells #[.int .i64 i] 3)).alloc (.cells #[.string ⟨#[]⟩] 9)) 9 (.string s)).alloc (.cells #[.func (.func 134) #[] #[]] 107))
  have b3 := (Boxed.new (((W.alloc (.cells #[.int .i64 i] 3)).alloc (.cells #[.string ⟨#[]⟩] 9)).alloc (.cells #[.string s] 9)) 107 (.func (.func 134) #[] #[]))
  simp only [World.size_alloc] at b1 b2 b3
  have hB0 := (((((Below.refl W.heap.size W).alloc (Nat.le_refl _) (.cells #[.int .i64 i] 3)).alloc (by simp) (.cells #[.string ⟨#[]⟩] 9)).alloc (by simp; omega) (.cells #[.string s] 9)).alloc (by simp; omega) (.cells #[.func (.func 134) #[] #[]] 107))
  have hsz : (((((W.alloc (.cells #[.int .i64 i] 3)).alloc (.cells #[.string ⟨#[]⟩] 9)).alloc (.cells #[.string s] 9)).alloc (.cells #[.func (.func 134) #[] #[]] 107))).heap.size = W.heap.size + 4 := by simp
  obtain ⟨W0, hW0⟩ : ∃ W0, ((((W.alloc (.cells #[.int .i64 i] 3)).alloc (.cells #[.string ⟨#[]⟩] 9)).alloc (.cells #[.string s] 9)).alloc (.cells #[.func (.func 134) #[] #[]] 107)) = W0 := ⟨_, rfl⟩
  rw [hW0] at b0 b1 b2 b3 hB0 hsz ⊢
  clear hW0
  refine wpIn_rangeFunc_ownH rfl (by omega) (gf := 141) (lb := #[.pointer (some ⟨W.heap.size + 1 + 1, 0, none⟩), .pointer (some ⟨W.heap.size + 1 + 1 + 1, 0, none⟩)]) rfl trivial (enters_of Tryz.func141 (by kernel_rfl) rfl)
    (placesS_stops 2 (by omega) (W.heap.size + 1 + 1) s hs W0 b2 b3) (fun h k => h.trans k) (Keeps2.putObj (by omega)) (Below.refl _ _) (fun _ => rfl)
    (fun pre W' => ((Boxed W' W.heap.size 3 (.int .i64 i) ∧ Boxed W' (W.heap.size + 1) 9 (.string ⟨#[]⟩)) ∧ (∀ x ∈ pre, (x : Int) ≠ i) ∧ W.heap.size + 4 ≤ W'.heap.size) ∧ Below W.heap.size W W')
    (fun c pre W' => (c = .ret ∧ Boxed W' (W.heap.size + 1) 9 (.string (slotT s i))) ∧ Below W.heap.size W W')
    (OwnFrom.and (OwnFrom.and (OwnFrom.and (Own.from (boxed_own _ _ _) _) (Own.from (boxed_own _ _ _) _)) (OwnFrom.and (ownFrom_pure _ _) (fun s X Y row hs hg hr => Nat.le_trans hs hg.size))) (ownFrom_below (Nat.le_refl _) (by omega)))
    (fun c => OwnFrom.and (OwnFrom.and (ownFrom_pure _ _) (Own.from (boxed_own _ _ _) _)) (ownFrom_below (Nat.le_refl _) (by omega)))
    ⟨⟨⟨b0, b1⟩, (fun x hx => by cases hx), by omega⟩, hB0⟩
    (fun x a' W' => a' = { tmps := #[.string s, .int .i64 i, undef, .pointer (some ⟨W.heap.size, 0, none⟩), .pointer (some ⟨W.heap.size + 1, 0, none⟩), .int .i64 (x : Int), .string (slotT s (x : Int)), .string s, .func (.func 141) #[] #[.pointer (some ⟨W.heap.size + 1 + 1, 0, none⟩), .pointer (some ⟨W.heap.size + 1 + 1 + 1, 0, none⟩)], .int .i64 (x : Int), .string (slotT s (x : Int)), undef, undef, undef, undef], defers := [] })
    (fun x a' _ X Y row hs hg hr => hs)
    ?assign ?body ?done ?stop
  case assign =>
    rintro l pre x W' K ⟨⟨⟨c1, c2⟩, hp1, hs1⟩, hB1⟩ hK
    gi_wp2
    exact hK _ _ (KeepsFrom.refl _ _) (Keeps2.refl _ _) ⟨⟨⟨c1, c2⟩, hp1, hs1⟩, hB1⟩ rfl
  case body =>
    rintro l pre x a' W' hl ⟨r, hr⟩ ⟨⟨⟨c1, c2⟩, hp1, hs1⟩, hB1⟩ rfl hlt
    have d1 := c1.cell
    have d2 := c2.cell
    have f2 := c2.frozen
    have Hp := Lib.hid hp1
    clear hp1 hl
    by_cases hx : (x : Int) = i
    · have hq : ((x : Int) == i) = true := by simpa using hx
      have HX := Lib.hid hx
      clear hx
      gi_wp2
      refine ⟨(KeepsOthers.setCell _ _ _).from _, ⟨rfl, ?_⟩, hB1.setCell (p := ⟨W.heap.size + 1, 0, none⟩) (by simp) _⟩
      have h := c2.set (.string (slotT s (x : Int)))
      rw [HX.out] at h
      simpa only [HX.out] using h
    · have hq : ((x : Int) == i) = false := by simpa using hx
      have HX := Lib.hid hx
      clear hx
      gi_wp2
      refine ⟨KeepsFrom.refl _ _, Keeps2.refl _ _, ⟨⟨c1, c2⟩, fun y hy => ?_, hs1⟩, hB1⟩
      rcases List.mem_append.1 hy with hy | hy
      · exact Hp.out y hy
      · rw [List.mem_singleton.1 hy]; exact HX.out
  case done =>
    rintro D ys W' hD rfl ⟨⟨⟨c1, c2⟩, hp1, hs1⟩, hB1⟩ hK
    have H5 := Lib.hid (slot_none hp1)
    clear hp1
    have d2 := c2.cell
    have f2 := c2.frozen
    gi_wp2
    have hK' := (KeepsOthers.setCell W' ⟨W.heap.size + 1, 0, none⟩ (.string ⟨#[]⟩)).same D _ hK rfl
    refine ⟨by simp, .inl ⟨_, _, rfl, run_takeDeferred hK', ?_⟩⟩
    have hc5 := cell_kept (World.cell?_setCell_same' W' ⟨W.heap.size + 1, 0, none⟩ (.string ⟨#[]⟩) (by rw [d2]; rfl)) (grownBy_putObj' _ D (.deferred none)) (fun r e => by cases e; exact ⟨_, hK', rfl⟩)
    refine ⟨.string ⟨#[]⟩, ?_, ret_str H5.out.symm, (hB1.setCell (p := ⟨W.heap.size + 1, 0, none⟩) (by simp) _).trans (belowK_b (w := W) (Nat.le_refl _) _ D _ _ (by omega) hK' rfl rfl)⟩
    simp [results, Tryz.f113, go_sem, hc5]
  case stop =>
    rintro D c pre W' hD hpre ⟨⟨rfl, c2⟩, hB1⟩ hK
    gi_wp2
    refine ⟨by simp, .inl ⟨_, _, rfl, run_takeDeferred hK, ?_⟩⟩
    have hc5 := cell_kept c2.cell (grownBy_putObj' _ D (.deferred none)) (fun r e => by cases e; exact ⟨_, hK, rfl⟩)
    refine ⟨.string (slotT s i), ?_, rfl, hB1.trans (belowK_b (w := W) (Nat.le_refl _) W' D _ _ (by omega) hK rfl rfl)⟩
    simp [results, Tryz.f113, go_sem, hc5]

end Go.Proofs.YthmpjoiifglbjaaGreat

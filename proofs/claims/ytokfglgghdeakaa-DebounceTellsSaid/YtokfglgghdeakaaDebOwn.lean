/- The program's own functions of layer 18: contracts only. -/
import Derived.Test.YtokfglgghdeakaaDebIter
import Derived.WalkKit
import Derived.ProofKit
import Derived.Lib.Hide
import Derived.OwnWalk
import Derived.Deep.RegionHeld3
import Derived.WalkLawsBesides
import Derived.WalkSpells
import Derived.IntWalk
namespace Go.Proofs.Ytokfglgghdeakaa
open Go.RowKit Go.Shelf
set_option linter.unusedVariables false
set_option linter.unusedSimpArgs false
attribute [local go_sem] Oper.semAt_some

set_option maxRecDepth 100000 in
set_option maxHeartbeats 4000000 in
theorem own18All (c : Ct) (l : List Int) (A : Option Addr) (c' : Nat) (W : World) (hl : IntsAt W A l) (hc : l.length ≤ c' ∧ c' ≤ maxLen) :
    Gives Try.prog 10 #[.agg #[.int .i64 c.vote, .int .i64 c.n], .slice A l.length c'] W (.agg #[.int .i64 (allD c l).vote, .int .i64 (allD c l).n]) := by
  have HE := Lib.hid (countsD_last c l)
  generalize allD c l = r at *
  refine (callsIn_wide (n := 3)).1 ?_
  refine callsIn_of_wp_marks Try.func10 rfl trivial ?_ rfl
  simp only [Try.ntmps10, List.size_toArray, List.length_cons, List.length_nil, Nat.reduceAdd, Nat.reduceSub, Array.replicate_succ, Array.replicate_zero, List.push_toArray, List.append_toArray, List.nil_append, List.cons_append]
  have e0 := (Box.new 23 W [.int .i64 c.vote, .int .i64 c.n])
  have e1 := (e0.alloc (.cells #[.int .i64 0, .int .i64 0] 23)).f2
  gi_wp2_with (refine ⟨trivial, ?_⟩; gi_at_call 16; refine (callsIn_wide.2 (counts_any c l A c' _)).mono ?_; rintro e w' ⟨rfl, rfl⟩)
  clear e0 e1
  have st := Bs.in4 W 23 [.int .i64 c.vote, .int .i64 c.n] 23 [.int .i64 0, .int .i64 0] 23 [.int .i64 c.vote, .int .i64 c.n] 24 [.slice A l.length c']
  have hsz : ((((W.alloc (.cells #[.int .i64 c.vote, .int .i64 c.n] 23)).alloc (.cells #[.int .i64 0, .int .i64 0] 23)).alloc (.cells #[.int .i64 c.vote, .int .i64 c.n] 23)).alloc (.cells #[.slice A l.length c'] 24)).heap.size = W.heap.size + 4 := by simp
  replace st := st.name; obtain ⟨W0, hW, st⟩ := st; rw [hW]; rw [hW] at hsz; clear hW
  refine loop_told rfl (by omega) (gf := 17) (lb := #[.pointer (some ⟨W.heap.size + 1 + 1, 0, none⟩), .pointer (some ⟨W.heap.size + 1 + 1 + 1, 0, none⟩)]) rfl trivial (enters_of Try.func17 (by kernel_rfl) rfl)
    (counts_tells 2 (by omega) W.heap.size (W.heap.size + 1 + 1) c l A c' (Nat.le_trans hc.1 hc.2) W0 (st.box 1 rfl) (st.box 0 rfl) (by omega) ((ints_in hl).same (fun k hk => st.lo.block k hk)))
    (Below.refl _ _) (by omega) (fun _ => rfl)
    (fun pre X => Box 23 X W.heap.size [.int .i64 (pre.getLastD c).vote, .int .i64 (pre.getLastD c).n] ∧ Box 23 X (W.heap.size + 1) [.int .i64 0, .int .i64 0] ∧ Below W.heap.size W X ∧ W.heap.size + 4 ≤ X.heap.size)
    (fun s X Y h hk => ⟨h.1.below hk (by omega), h.2.1.below hk (by omega), h.2.2.1.trans (hk.mono (by omega)), Nat.le_trans h.2.2.2 hk.size⟩)
    ⟨st.box 3 rfl, st.box 2 rfl, st.lo, by omega⟩
    (fun x a' X => ∃ b, W.heap.size < b ∧ Box 23 X b [.int .i64 x.vote, .int .i64 x.n] ∧ a' = { tmps := #[.agg #[.int .i64 c.vote, .int .i64 c.n], .slice A l.length c', .pointer (some ⟨W.heap.size, 0, none⟩), undef, .pointer (some ⟨W.heap.size + 1, 0, none⟩), .pointer (some ⟨b, 0, none⟩), .agg #[.int .i64 c.vote, .int .i64 c.n], .slice A l.length c', .func (.func 17) #[] #[.pointer (some ⟨W.heap.size + 1 + 1, 0, none⟩), .pointer (some ⟨W.heap.size + 1 + 1 + 1, 0, none⟩)], .agg #[.int .i64 x.vote, .int .i64 x.n], undef, undef], defers := [] })
    (fun x a' X lp r o h hlp => by
      obtain ⟨b, hb, hbx, e⟩ := h
      refine ⟨b, hb, hbx.same (World.putObj_heap_other fun e2 => ?_), e⟩
      subst e2; rw [show X.heap[b]? = _ from hbx] at hlp; cases hlp)
    ?assign ?body ?done
  case assign =>
    rintro lp pre x X K hX ⟨i1, i2, i3, i4⟩ hK
    clear st hl hc
    gi_wp2
    exact hK _ _ ((Below.refl _ _).alloc (Nat.le_refl _) _) ⟨X.heap.size, by omega, Box.new _ _ [.int .i64 x.vote, .int .i64 x.n], rfl⟩
  case body =>
    rintro lp pre x a' X ⟨i1, i2, i3, i4⟩ ⟨b, hb, hbx, rfl⟩ hlt
    have d0 := hbx.f2
    have d1 := i1.f2
    have HB := Lib.hid hb
    clear st hl hc hlt hb
    gi_wp2
    refine ⟨⟨by simp [World.setCell], fun k hk hkb => (Below.heap_setCell _ _ _ _ (show k ≠ W.heap.size by omega)).trans (Below.heap_setCell _ _ _ _ (show k ≠ W.heap.size by omega))⟩, ?_, (i2.other (by omega) _ _).other (by omega) _ _, (i3.setCell (p := ⟨W.heap.size, 0, none⟩) (Nat.le_refl _) _).setCell (p := ⟨W.heap.size, 1, none⟩) (Nat.le_refl _) _⟩
    exact (i1.set 0 _).set 1 _
  case done =>
    rintro D xs X hD rfl ⟨i1, i2, i3, i4⟩ hK
    rw [HE.out] at i1
    have d1 := i1.f2
    have d2 := i2.f2
    clear st hl hc
    gi_wp2
    have b2 : Box 23 ((X.setCell ⟨W.heap.size + 1, 0, none⟩ (.int .i64 r.vote)).setCell ⟨W.heap.size + 1, 1, none⟩ (.int .i64 r.n)) (W.heap.size + 1) [.int .i64 r.vote, .int .i64 r.n] := (i2.set 0 _).set 1 _
    have hB := (i3.setCell (p := ⟨W.heap.size + 1, 0, none⟩) (Nat.le_succ _) (.int .i64 r.vote)).setCell (p := ⟨W.heap.size + 1, 1, none⟩) (Nat.le_succ _) (.int .i64 r.n)
    have hK' : (((X.setCell ⟨W.heap.size + 1, 0, none⟩ (.int .i64 r.vote)).setCell ⟨W.heap.size + 1, 1, none⟩ (.int .i64 r.n))).heap[D]? = some (.deferred (some [])) := (Below.heap_setCell _ _ _ _ (show D ≠ W.heap.size + 1 by omega)).trans ((Below.heap_setCell _ _ _ _ (show D ≠ W.heap.size + 1 by omega)).trans hK)
    refine ⟨by simp, .inl ⟨_, _, rfl, run_takeDeferred hK', ?_⟩⟩
    have b3 := (b2.same (World.putObj_heap_other (r := D) (o := .deferred none) (show W.heap.size + 1 ≠ D by omega))).f2
    refine ⟨.agg #[.int .i64 r.vote, .int .i64 r.n], ?_, rfl, hB.trans (below_put _ _ _ _ (by omega))⟩
    simp [results, Try.f10, go_sem, b3]

end Go.Proofs.Ytokfglgghdeakaa

/- Three votes that agree make a verdict, whatever was counted ahead of them; fewer from another vote make none (DebounceThree); no condition. -/
import Derived.Test.YtokfglgghdeakaaRows
import Derived.Test.YtokfglgghdeakaaDebPlain
import Derived.Test.YtokfglgghdeakaaIntsAt
import Derived.Test.YtokfglgghdeakaaIntsOwn
import Derived.Test.YtokfglgghdeakaaBs
import Derived.Test.YtokfglgghdeakaaInts
import Derived.WalkKit
import Derived.ProofKit
import Derived.Lib.Hide
import Derived.OwnWalk
import Derived.Deep.RegionHeld3
import Derived.WalkLawsBesides
import Derived.WalkSpells
import Derived.IntWalk
import Derived.Test.YtokfglgghdeakaaDebOpen
import Derived.Test.YtokfglgghdeakaaDebOwn
import Derived.Test.YtokfglgghdeakaaDebRef
import Derived.Test.YtokfglgghdeakaaDebLaw
import Derived.Test.YtokfglgghdeakaaBase
import Derived.ProofKit
import Derived.OpenShut
import Derived.ChangeMaps5
import Derived.Test.YtokfglgghdeakaaInts
namespace Go.Proofs.Ytokfglgghdeakaa.DebounceThree
open Go.ChangeShapes Go.WideShapes Go.ChangeAt Go.RowKit Go.ChangeMaps
set_option linter.unusedVariables false
set_option linter.unusedSimpArgs false

set_option maxRecDepth 100000 in
set_option maxHeartbeats 4000000 in
theorem walk (c : Ct) (airborne : Bool) (n : UInt8) (W : World) (hc : c.ok) :
    Calls Try.prog 5 #[.agg #[.int .i64 c.vote, .int .i64 c.n], .bool airborne, .int .u8 (n.toNat : Int)] W fun e W' => e = .returned (.bool true) ∧ Below W.heap.size W W' := by
  obtain ⟨i0, hi, hz0, hz1, hz2⟩ := info_parts info_int0
  obtain ⟨k, hk⟩ : ∃ k : Nat, n.toNat % 6 = k := ⟨_, rfl⟩
  have hk6 : k < 6 := by omega
  have e1 := w64_u8 n
  have e2 : (n.toNat : Int).tmod 6 = (k : Int) := by rw [Int.tmod_eq_emod_of_nonneg (by omega)]; omega
  have e3 : (wrap64 (n.toNat : Int)).tmod 6 = (k : Int) := by rw [e1]; exact e2
  clear hk e1 e2
  cases airborne
  · have HR := Lib.hid (rep_ver c (v := 1) (by decide) k)
    have TL := Lib.hid (fun (V : World) (A : Option Addr) (m : Nat) (h : IntsAt V A (List.replicate k (1 : Int))) (h2 : k ≤ m ∧ m ≤ maxLen) => (show Gives Try.prog 10 #[.agg #[.int .i64 c.vote, .int .i64 c.n], .slice A k m] V (.agg #[.int .i64 (allD c (List.replicate k (1 : Int))).vote, .int .i64 (allD c (List.replicate k (1 : Int))).n]) from by have h3 := own18All c (List.replicate k (1 : Int)) A m V h (by rw [List.length_replicate]; exact h2); rw [List.length_replicate] at h3; exact h3))
    have TV := Lib.hid (fun (V : World) => own18Verdict (allD c (List.replicate k (1 : Int))) V)
    have HG : ∀ r : Ct, verD r = verD r := fun _ => rfl
    clear HG
    generalize allD c (List.replicate k (1 : Int)) = r at *
    generalize verD r = q at *
    have st := Bs.in1 W 23 [.int .i64 c.vote, .int .i64 c.n]
    go_enter Try.func5, Try.ntmps5
    have fc0 := (st.box 0 rfl).f2
    go_wp2
    clear fc0
    replace st := st.name; obtain ⟨V2, hV, st⟩ := st; have hz : V2.heap.size = W.heap.size + 1 := by rw [← hV]; simp
    rw [hV]; clear hV
    have hown := World.ownsRow_made (base := V2.heap.size) (e := 3) (size := 1) V2 #[] 0 (Nat.le_refl _) (by simp) rfl; rw [hz] at hown
    have K : Below V2.heap.size V2 (V2.alloc (.cells #[] 3)) := (Below.refl _ _).alloc (Nat.le_refl _) _; generalize W.heap.size + 1 = cb at *
    go_loopw [9, 10] (fun u i w => ∃ j : Nat, j ≤ k ∧ i = .int .i64 j ∧ w.ownsRow cb 3 1 u j ((List.replicate j (1 : Int)).map (Value.int .i64)) ∧ Below V2.heap.size V2 w) (fun _ i _ => k - (intOf i).toNat)
    case atStart => exact ⟨0, Nat.zero_le _, rfl, hown, K⟩
    case round =>
      clear hown K; obtain ⟨j, hj, rfl, hown, K⟩ := hrel
      by_cases hlt : j < k
      · have j1 : (j : Int) < (k : Int) := by omega
        have hzk := K.size
        go_wp2_with (at_builtin; refine wpList_append_own _ rfl _ _ 24 rfl cb 3 i0 (.int .i64 0) 1 8 Try.underlying24 hi hz0 hz1 hz2 rfl (by decide) _ _ _ rfl (hown.alloc _) ⟨wr.heap.size, 0, none⟩ 1 1 [.int .i64 (1)] rfl rfl (cell_one_new _ _ _) ?c2 ?c3 ?c4 ?c5 ?_)
        case c2 => intro u hu; simp at hu; subst hu; rfl
        case c3 => unfold maxLen; omega
        case c4 => omega
        case c5 => (try simp); omega
        intro v' w1 hown' hgrow _
        have K' := (K.alloc K.size _).grown hgrow (by simp; omega) (fun j e => by have := (hown.lt j e).1; omega)
        have H3 := Lib.hid (show w1.ownsRow cb 3 1 v' (j + 1) ((List.replicate (j + 1) (1 : Int)).map (Value.int .i64)) from by simpa [List.replicate_succ'] using hown')
        clear hown' hown hgrow K hzk
        go_wp2
        go_roundw
        case rel => exact ⟨j + 1, by omega, by go_num, H3.out, K'⟩
        case measure => simp [intOf]; omega
      · obtain rfl : j = k := by omega
        obtain ⟨A, m, e, hA, hm1, hm2⟩ := ints_row (l := List.replicate j (1 : Int)) (by rw [List.length_replicate]; exact hown)
        rw [List.length_replicate] at e hm1; subst e
        have TL1 := Lib.hid (TL.out _ _ _ hA ⟨hm1, hm2⟩)
        replace st := st.seq K; clear hown K hA hm1 hm2 hz TL
        by_cases h3 : 3 ≤ j
        · have m3 : (j : Int) ≥ 3 := by omega
          obtain rfl : q = 1 := HR.out.1 h3
          clear h3 HR
          have fc0 := (st.box 0 rfl).f2
          go_wp2_with fail; refine callB st (TL1.out) ?_; clear st fc0; intro V1 st
          replace st := st.alloc 23 [.int .i64 r.vote, .int .i64 r.n]
          have fc0 := (st.box 1 rfl).f2; have fc1 := (st.box 0 rfl).f2
          go_wp2_with fail; refine callB st (TV.out _) ?_; clear st fc0 fc1; intro V2 st
          have fc0 := (st.box 1 rfl).f2; have fc1 := (st.box 0 rfl).f2
          go_wp2_with fail; refine callB st (shown18 _) ?_; clear st fc0 fc1; intro V3 st
          go_wp2; go_ret; exact ⟨rfl, st.lo⟩
        · have m3 : ¬ (j : Int) ≥ 3 := by omega
          by_cases hq : q = 1
          · have hc := (HR.out.2 (by omega)).resolve_left (fun k => k hq)
            have n1 : (c.vote == 1) = true := beq_iff_eq.2 hc
            subst hq
            clear h3 HR hc
            have fc0 := (st.box 0 rfl).f2
            go_wp2_with fail; refine callB st (TL1.out) ?_; clear st fc0; intro V1 st
            replace st := st.alloc 23 [.int .i64 r.vote, .int .i64 r.n]
            have fc0 := (st.box 1 rfl).f2; have fc1 := (st.box 0 rfl).f2
            go_wp2_with fail; refine callB st (TV.out _) ?_; clear st fc0 fc1; intro V2 st
            have fc0 := (st.box 1 rfl).f2; have fc1 := (st.box 0 rfl).f2
            go_wp2_with fail; refine callB st (shown18 _) ?_; clear st fc0 fc1; intro V3 st
            go_wp2; go_ret; exact ⟨rfl, st.lo⟩
          · have n1 : (q != 1) = true := bne_iff_ne.2 hq
            clear h3 HR hq
            have fc0 := (st.box 0 rfl).f2
            go_wp2_with fail; refine callB st (TL1.out) ?_; clear st fc0; intro V1 st
            replace st := st.alloc 23 [.int .i64 r.vote, .int .i64 r.n]
            have fc0 := (st.box 1 rfl).f2; have fc1 := (st.box 0 rfl).f2
            go_wp2_with fail; refine callB st (TV.out _) ?_; clear st fc0 fc1; intro V2 st
            have fc0 := (st.box 1 rfl).f2; have fc1 := (st.box 0 rfl).f2
            go_wp2_with fail; refine callB st (shown18 _) ?_; clear st fc0 fc1; intro V3 st
            go_wp2; go_ret; exact ⟨rfl, st.lo⟩
  · have HR := Lib.hid (rep_ver c (v := 2) (by decide) k)
    have TL := Lib.hid (fun (V : World) (A : Option Addr) (m : Nat) (h : IntsAt V A (List.replicate k (2 : Int))) (h2 : k ≤ m ∧ m ≤ maxLen) => (show Gives Try.prog 10 #[.agg #[.int .i64 c.vote, .int .i64 c.n], .slice A k m] V (.agg #[.int .i64 (allD c (List.replicate k (2 : Int))).vote, .int .i64 (allD c (List.replicate k (2 : Int))).n]) from by have h3 := own18All c (List.replicate k (2 : Int)) A m V h (by rw [List.length_replicate]; exact h2); rw [List.length_replicate] at h3; exact h3))
    have TV := Lib.hid (fun (V : World) => own18Verdict (allD c (List.replicate k (2 : Int))) V)
    have HG : ∀ r : Ct, verD r = verD r := fun _ => rfl
    clear HG
    generalize allD c (List.replicate k (2 : Int)) = r at *
    generalize verD r = q at *
    have st := Bs.in1 W 23 [.int .i64 c.vote, .int .i64 c.n]
    go_enter Try.func5, Try.ntmps5
    have fc0 := (st.box 0 rfl).f2
    go_wp2
    clear fc0
    replace st := st.name; obtain ⟨V2, hV, st⟩ := st; have hz : V2.heap.size = W.heap.size + 1 := by rw [← hV]; simp
    rw [hV]; clear hV
    have hown := World.ownsRow_made (base := V2.heap.size) (e := 3) (size := 1) V2 #[] 0 (Nat.le_refl _) (by simp) rfl; rw [hz] at hown
    have K : Below V2.heap.size V2 (V2.alloc (.cells #[] 3)) := (Below.refl _ _).alloc (Nat.le_refl _) _; generalize W.heap.size + 1 = cb at *
    go_loopw [9, 10] (fun u i w => ∃ j : Nat, j ≤ k ∧ i = .int .i64 j ∧ w.ownsRow cb 3 1 u j ((List.replicate j (2 : Int)).map (Value.int .i64)) ∧ Below V2.heap.size V2 w) (fun _ i _ => k - (intOf i).toNat)
    case atStart => exact ⟨0, Nat.zero_le _, rfl, hown, K⟩
    case round =>
      clear hown K; obtain ⟨j, hj, rfl, hown, K⟩ := hrel
      by_cases hlt : j < k
      · have j1 : (j : Int) < (k : Int) := by omega
        have hzk := K.size
        go_wp2_with (at_builtin; refine wpList_append_own _ rfl _ _ 24 rfl cb 3 i0 (.int .i64 0) 1 8 Try.underlying24 hi hz0 hz1 hz2 rfl (by decide) _ _ _ rfl (hown.alloc _) ⟨wr.heap.size, 0, none⟩ 1 1 [.int .i64 (2)] rfl rfl (cell_one_new _ _ _) ?c2 ?c3 ?c4 ?c5 ?_)
        case c2 => intro u hu; simp at hu; subst hu; rfl
        case c3 => unfold maxLen; omega
        case c4 => omega
        case c5 => (try simp); omega
        intro v' w1 hown' hgrow _
        have K' := (K.alloc K.size _).grown hgrow (by simp; omega) (fun j e => by have := (hown.lt j e).1; omega)
        have H3 := Lib.hid (show w1.ownsRow cb 3 1 v' (j + 1) ((List.replicate (j + 1) (2 : Int)).map (Value.int .i64)) from by simpa [List.replicate_succ'] using hown')
        clear hown' hown hgrow K hzk
        go_wp2
        go_roundw
        case rel => exact ⟨j + 1, by omega, by go_num, H3.out, K'⟩
        case measure => simp [intOf]; omega
      · obtain rfl : j = k := by omega
        obtain ⟨A, m, e, hA, hm1, hm2⟩ := ints_row (l := List.replicate j (2 : Int)) (by rw [List.length_replicate]; exact hown)
        rw [List.length_replicate] at e hm1; subst e
        have TL1 := Lib.hid (TL.out _ _ _ hA ⟨hm1, hm2⟩)
        replace st := st.seq K; clear hown K hA hm1 hm2 hz TL
        by_cases h3 : 3 ≤ j
        · have m3 : (j : Int) ≥ 3 := by omega
          obtain rfl : q = 2 := HR.out.1 h3
          clear h3 HR
          have fc0 := (st.box 0 rfl).f2
          go_wp2_with fail; refine callB st (TL1.out) ?_; clear st fc0; intro V1 st
          replace st := st.alloc 23 [.int .i64 r.vote, .int .i64 r.n]
          have fc0 := (st.box 1 rfl).f2; have fc1 := (st.box 0 rfl).f2
          go_wp2_with fail; refine callB st (TV.out _) ?_; clear st fc0 fc1; intro V2 st
          have fc0 := (st.box 1 rfl).f2; have fc1 := (st.box 0 rfl).f2
          go_wp2_with fail; refine callB st (shown18 _) ?_; clear st fc0 fc1; intro V3 st
          go_wp2; go_ret; exact ⟨rfl, st.lo⟩
        · have m3 : ¬ (j : Int) ≥ 3 := by omega
          by_cases hq : q = 2
          · have hc := (HR.out.2 (by omega)).resolve_left (fun k => k hq)
            have n1 : (c.vote == 2) = true := beq_iff_eq.2 hc
            subst hq
            clear h3 HR hc
            have fc0 := (st.box 0 rfl).f2
            go_wp2_with fail; refine callB st (TL1.out) ?_; clear st fc0; intro V1 st
            replace st := st.alloc 23 [.int .i64 r.vote, .int .i64 r.n]
            have fc0 := (st.box 1 rfl).f2; have fc1 := (st.box 0 rfl).f2
            go_wp2_with fail; refine callB st (TV.out _) ?_; clear st fc0 fc1; intro V2 st
            have fc0 := (st.box 1 rfl).f2; have fc1 := (st.box 0 rfl).f2
            go_wp2_with fail; refine callB st (shown18 _) ?_; clear st fc0 fc1; intro V3 st
            go_wp2; go_ret; exact ⟨rfl, st.lo⟩
          · have n1 : (q != 2) = true := bne_iff_ne.2 hq
            clear h3 HR hq
            have fc0 := (st.box 0 rfl).f2
            go_wp2_with fail; refine callB st (TL1.out) ?_; clear st fc0; intro V1 st
            replace st := st.alloc 23 [.int .i64 r.vote, .int .i64 r.n]
            have fc0 := (st.box 1 rfl).f2; have fc1 := (st.box 0 rfl).f2
            go_wp2_with fail; refine callB st (TV.out _) ?_; clear st fc0 fc1; intro V2 st
            have fc0 := (st.box 1 rfl).f2; have fc1 := (st.box 0 rfl).f2
            go_wp2_with fail; refine callB st (shown18 _) ?_; clear st fc0 fc1; intro V3 st
            go_wp2; go_ret; exact ⟨rfl, st.lo⟩

theorem own : ownKnob Try.prog.godebug = none := by kernel_rfl

set_option maxRecDepth 100000 in
theorem lifted (os : Os) (started : os.Started) (H : Type) (enc : TypeId × Value → H) :
    ReturnsInHanded {} Try.checked os 5 .any (Rows.debounceThreeSpec.pre6 enc Try.prog Try.f5 Rows.debounceThreeRow.domain false) (Rows.debounceThreeSpec.post enc Try.prog Try.f5 false true false false) := by
  refine returnsInHanded_of_change (C := Try.checked) own started (by kernel_rfl) Try.func5
    (ChangeSpec.witness6 (enc := enc) (C := Try.checked) false ⟨#[], #[.agg #[.int .i64 0, .int .i64 0], .bool false, .int .u8 0], []⟩ 8 (by kernel_rfl) (by kernel_rfl) (by kernel_rfl) (by kernel_rfl)) ?_
  intro W base args ds gs before hval hW _ _
  have hW' := hW
  obtain ⟨p, q, hA0, hV, rfl, hfz, hnd⟩ := hW
  have hA : DataW.TrodAll enc Try.prog W 0 (fun _ => true) true Try.f5.params.toList args.toList ds p := hA0
  rw [Try.params5] at hA hval
  obtain ⟨v0, vs0, d0, ds0, p0, q0, hargs, rfl, rfl, h0, r0⟩ := trodAll_cons hA
  obtain ⟨v1, vs1, d1, ds1, p1, q1, rfl, rfl, rfl, h1, r1⟩ := trodAll_cons r0
  obtain ⟨v2, vs2, d2, ds2, p2, q2, rfl, rfl, rfl, h2, r2⟩ := trodAll_cons r1
  obtain ⟨rfl, rfl, rfl⟩ := trodAll_nil r2
  obtain rfl : args = #[v0, v1, v2] := by cases args; simp_all
  obtain ⟨rfl, rfl⟩ := trodVars_none hV
  have k0 := h0
  obtain ⟨s0, rfl, hs0⟩ := open_ct (hval 0 23 v0 rfl rfl) h0
  obtain ⟨s1, rfl, rfl, rfl⟩ := open_bool Try.underlying4 (hval 1 4 v1 rfl rfl) h1
  obtain ⟨a2, rfl, rfl, rfl, w2⟩ := open_int Try.underlying5 (hval 2 5 v2 rfl rfl) h2
  obtain ⟨c2, rfl⟩ := int_u8 w2
  clear hA0
  simp only [List.append_nil] at hW'
  refine (walk s0 s1 c2 W hs0).mono fun e W' ⟨he, hB⟩ => ?_
  subst he
  exact ⟨_, rfl, ⟨_, _, _, [], _, [], hW', trodAll_cons_mk (shut_bool Try.underlying4 _) trodAll_mk0, (trodAll_cons_mk (Below.trod Try.laidOut (by kernel_rfl) (of_decide_eq_true (by kernel_rfl)) k0 hB (fun x hx => by simpa using hW'.lt x (by simp [hx]))) (trodAll_cons_mk (shut_bool Try.underlying4 _) (trodAll_cons_mk (shut_int Try.underlying5 w2) trodAll_mk0))), rfl, hB.frame _, fun h => by cases h⟩⟩

theorem holds : Rows.DebounceThreeSaid :=
  OpenClaim.holds_of_wide 5 Try.f5 rfl rfl rfl rfl rfl rfl rfl ⟨rfl, rfl, rfl, rfl, rfl⟩ rfl rfl rfl rfl rfl (by kernel_rfl) Try.func5 (by kernel_rfl)
    (of_decide_eq_true (by kernel_rfl)) (by unfold Func.isWrapper; first | (rw [if_pos (by decide +kernel)]; kernel_rfl) | (rw [if_neg (by decide +kernel)]; exact ⟨rfl, rfl⟩))
    (fun os started H enc _ => lifted os started H enc)
end Go.Proofs.Ytokfglgghdeakaa.DebounceThree

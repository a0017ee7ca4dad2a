/- A verdict stays till a vote says the other thing; then there is none, till there are three of these (DebounceStays); no condition. -/
import Derived.Test.YtokfglgghdeakaaRows
import Derived.Test.YtokfglgghdeakaaDebPlain
import Derived.Test.YtokfglgghdeakaaIntsAt
import Derived.Test.YtokfglgghdeakaaIntsOwn
import Derived.Test.YtokfglgghdeakaaBs
import Derived.Test.YtokfglgghdeakaaInts
import Derived.WalkKit
import Derived.ProofKit
import Derived.Lib.Hide
import Derived.OwnWalk
import Derived.Deep.RegionHeld3
import Derived.WalkLawsBesides
import Derived.WalkSpells
import Derived.IntWalk
import Derived.Test.YtokfglgghdeakaaDebOpen
import Derived.Test.YtokfglgghdeakaaDebOwn
import Derived.Test.YtokfglgghdeakaaDebRef
import Derived.Test.YtokfglgghdeakaaDebLaw
import Derived.Test.YtokfglgghdeakaaBase
import Derived.ProofKit
import Derived.OpenShut
import Derived.ChangeMaps5
import Derived.Test.YtokfglgghdeakaaInts
namespace Go.Proofs.Ytokfglgghdeakaa.DebounceStays
open Go.ChangeShapes Go.WideShapes Go.ChangeAt Go.RowKit Go.ChangeMaps
set_option linter.unusedVariables false
set_option linter.unusedSimpArgs false

set_option maxRecDepth 100000 in
set_option maxHeartbeats 4000000 in
theorem walk (c : Ct) (l : List Int) (lA : Option Addr) (lc : Nat) (W : World) (hc : c.ok) (hl : RowsAt 1 intV W lA l) (hlo : ∀ o ∈ l, -9223372036854775808 ≤ o ∧ o ≤ 9223372036854775807) (hl1 : l.length ≤ lc) (hl2 : lc ≤ maxLen) :
    Calls Try.prog 6 #[.agg #[.int .i64 c.vote, .int .i64 c.n], .slice lA l.length lc] W fun e W' => e = .returned (.bool true) ∧ Below W.heap.size W W' := by
  have TV0 := Lib.hid (fun (V : World) => own18Verdict c V)
  have HV := Lib.hid (fun (v : Int) (h : verD c = v) (h0 : v ≠ 0) => ver_parts h h0)
  have hll := ints_of_rows hl
  clear hl
  obtain ⟨q, hq⟩ : ∃ q, verD c = q := ⟨_, rfl⟩
  rw [hq] at TV0
  by_cases hbig : 100 < l.length
  · have m0 : (l.length : Int) > 100 := by omega
    clear hbig hq HV
    have st := Bs.in1 W 23 [.int .i64 c.vote, .int .i64 c.n]
    go_enter Try.func6, Try.ntmps6
    have fc0 := (st.box 0 rfl).f2
    go_wp2_with fail; refine callB st (TV0.out _) ?_; clear st fc0; intro V1 st
    have fc0 := (st.box 0 rfl).f2
    go_wp2_with fail; refine callB st (shown18 _) ?_; clear st fc0; intro V2 st
    go_wp2; go_ret; exact ⟨rfl, st.lo⟩
  · have m0 : ¬ (l.length : Int) > 100 := by omega
    by_cases h0 : q = 0
    · subst h0
      clear hbig hq HV
      have st := Bs.in1 W 23 [.int .i64 c.vote, .int .i64 c.n]
      go_enter Try.func6, Try.ntmps6
      have fc0 := (st.box 0 rfl).f2
      go_wp2_with fail; refine callB st (TV0.out _) ?_; clear st fc0; intro V1 st
      have fc0 := (st.box 0 rfl).f2
      go_wp2_with fail; refine callB st (shown18 _) ?_; clear st fc0; intro V2 st
      go_wp2; go_ret; exact ⟨rfl, st.lo⟩
    · obtain ⟨hv, hv1, hv2⟩ := HV.out q hq h0
      clear hq HV h0
      rcases hv with rfl | rfl
      · have h0 := Lib.hid (show stayI 1 c 0 from Or.inl ⟨rfl, hv1, hv2⟩)
        have HS := Lib.hid (fun (x : Ct) (a : Int) (t : Nat) (h : stayI 1 x t) => (show stayI 1 (addD x a) (if a = 2 then t + 1 else t) from stay_step (x := a) (v := 1) (by decide) h))
        have HX := Lib.hid (fun (x : Ct) (t : Nat) (h : stayI 1 x t) => (show (t = 0 → verD x = 1) ∧ (0 < t → t < 3 → verD x ≠ 2) from stay_ver (v := 1) (by decide) h))
        have HL := Lib.hid (fun (k : Nat) (v : Int) (hk : l[k]? = some v) => hll.hop k v hk)
        clear hv1 hv2 hll
        have st := Bs.in1 W 23 [.int .i64 c.vote, .int .i64 c.n]
        go_enter Try.func6, Try.ntmps6
        have fc0 := (st.box 0 rfl).f2
        go_wp2_with fail; refine callB st (TV0.out _) ?_; clear st fc0; intro V1 st
        have fc0 := (st.box 0 rfl).f2
        go_wp2_with fail; refine callB st (shown18 _) ?_; clear st fc0; intro V2 st
        have fc0 := (st.box 0 rfl).f2
        go_wp2
        clear fc0
        go_loopw [7, 8] (fun u i w => ∃ (k t : Nat) (x : Ct), k ≤ l.length ∧ i = .int .i64 k ∧ u = .int .i64 t ∧ t ≤ k ∧ stayI 1 x t ∧ Bs W w [(23, W.heap.size, [.int .i64 x.vote, .int .i64 x.n])]) (fun _ i _ => l.length - (intOf i).toNat)
        case atStart => exact ⟨0, 0, c, Nat.zero_le _, rfl, rfl, Nat.zero_le _, h0.out, st⟩
        case round =>
          clear st; obtain ⟨k, t, x, hk, rfl, rfl, ht, hx, st⟩ := hrel
          replace hx := Lib.hid hx
          by_cases hlt : k < l.length
          · obtain ⟨a, ha⟩ : ∃ a, l[k]? = some a := ⟨_, List.getElem?_eq_getElem hlt⟩
            obtain ⟨g, off, rfl, HC⟩ := HL.out k a ha; replace HC := Lib.hid HC
            have hy := Lib.hid (HS.out x a t hx.out)
            have TA := Lib.hid (fun (V : World) => own18Add x a V)
            clear hx
            generalize addD x a = y at *
            have TY := Lib.hid (fun (V : World) => own18Verdict y V)
            have j0 : (0 : Int) ≤ (k : Int) := by omega
            have j1 : (k : Int) < (l.length : Int) := by omega
            have j2 : ¬ 9223372036854775807 < (k : Int) + 1 := by omega
            clear ha HL h0
            go_wp2_with fail
            replace st := st.drew
            refine rh (fun w => w.cell? ⟨g, off + k, none⟩ = some (.int .i64 a)) (HC.out _ st.lo) fun hHeld => ?_
            generalize wr.drew = V3 at *
            refine tq 1 ?_; refine tq 2 ?_; refine tq 3 ?_; refine tq 4 ?_
            try simp only [Act.put, l1, l2, l3, l4, l5, l6]
            refine rd 0 fun K hK => ?_
            have fc0 := (st.box 0 rfl).f2
            go_simp
            try go_wp2_with fail
            clear hHeld fc0; refine hK.out _ _ (HC.out _ st.lo) fun hHeld => ?_; clear hK K
            try simp only [Act.put, l1, l2, l3, l4, l5, l6]
            refine rd 5 fun K hK => ?_
            have fc0 := (st.box 0 rfl).f2
            go_simp
            refine callB st (TA.out _) ?_; clear st fc0; intro V4 st
            have fc0 := (st.box 0 rfl).f2
            try go_wp2_with fail
            clear hHeld fc0; refine hK.out _ _ (HC.out _ st.lo) fun hHeld => ?_; clear hK K
            try simp only [Act.put, l1, l2, l3, l4, l5, l6]
            refine rd 6 fun K hK => ?_
            have fc0 := (st.box 0 rfl).f2
            go_simp
            try go_wp2_with fail
            clear fc0
            replace st := st.put2 0 (.int .i64 y.vote) (.int .i64 y.n) rfl; obtain ⟨V5, hV, st⟩ := st; rw [hV]; clear hV
            clear hHeld; refine hK.out _ _ (HC.out _ st.lo) fun hHeld => ?_; clear hK K
            try simp only [Act.put, l1, l2, l3, l4, l5, l6]
            refine wpAnyH_done (by kernel_rfl) ?_ _; clear hHeld
            have fc0 := (st.box 0 rfl).f2
            clear fc0
            have hc := HC.out _ st.lo; clear j2
            by_cases hao : a = 2
            · subst hao
              rw [if_pos rfl] at hy
              obtain ⟨T, hT⟩ : ∃ T, t + 1 = T := ⟨_, rfl⟩
              rw [hT] at hy
              have w1 : wrap64 ((t : Int) + 1) = (T : Int) := by unfold wrap64; omega
              have hy0 := hy
              replace hy := HX.out y T hy.out
              by_cases h3 : T < 3
              · have e1 := hy.2 (by omega) (by omega)
                have n1 : (((T : Nat) : Int) == 0) = false := beq_eq_false_iff_ne.2 (by omega)
                have n2 : ((T : Nat) : Int) > 0 := by omega
                have n3 : ((T : Nat) : Int) < 3 := by omega
                generalize verD y = vy at *
                have n4 : (vy == 2) = false := beq_eq_false_iff_ne.2 e1
                clear hy e1
                have hTk := Lib.hid (show T ≤ k + 1 from by omega); clear ht hT h3
                have fc0 := (st.box 0 rfl).f2
                go_wp2_with fail; refine callB st (TY.out _) ?_; clear st fc0; intro V6 st
                go_wp2
                go_roundw
                case rel => exact ⟨k + 1, T, y, by omega, by go_num, rfl, hTk.out, hy0.out, st⟩
                case measure => simp [intOf]; omega
              · have n1 : (((T : Nat) : Int) == 0) = false := beq_eq_false_iff_ne.2 (by omega)
                have n2 : ((T : Nat) : Int) > 0 := by omega
                have n3 : ¬ ((T : Nat) : Int) < 3 := by omega
                clear hy
                have hTk := Lib.hid (show T ≤ k + 1 from by omega); clear ht hT h3
                have fc0 := (st.box 0 rfl).f2
                go_wp2
                go_roundw
                clear fc0
                case rel => exact ⟨k + 1, T, y, by omega, by go_num, rfl, hTk.out, hy0.out, st⟩
                case measure => simp [intOf]; omega
            · have no : (a == 2) = false := beq_eq_false_iff_ne.2 hao
              rw [if_neg hao] at hy
              have hy0 := hy
              replace hy := HX.out y t hy.out
              clear hao
              by_cases hT : t = 0
              · subst hT; have e1 := (hy.1 rfl)
                rw [e1] at TY
                clear hy e1
                have hTk := Lib.hid (show 0 ≤ k + 1 from by omega); clear ht
                have fc0 := (st.box 0 rfl).f2
                go_wp2_with fail; refine callB st (TY.out _) ?_; clear st fc0; intro V6 st
                go_wp2
                go_roundw
                case rel => exact ⟨k + 1, 0, y, by omega, by go_num, rfl, hTk.out, hy0.out, st⟩
                case measure => simp [intOf]; omega
              · by_cases h3 : t < 3
                · have e1 := hy.2 (by omega) (by omega)
                  have n1 : (((t : Nat) : Int) == 0) = false := beq_eq_false_iff_ne.2 (by omega)
                  have n2 : ((t : Nat) : Int) > 0 := by omega
                  have n3 : ((t : Nat) : Int) < 3 := by omega
                  generalize verD y = vy at *
                  have n4 : (vy == 2) = false := beq_eq_false_iff_ne.2 e1
                  clear hy e1
                  have hTk := Lib.hid (show t ≤ k + 1 from by omega); clear ht hT h3
                  have fc0 := (st.box 0 rfl).f2
                  go_wp2_with fail; refine callB st (TY.out _) ?_; clear st fc0; intro V6 st
                  go_wp2
                  go_roundw
                  case rel => exact ⟨k + 1, t, y, by omega, by go_num, rfl, hTk.out, hy0.out, st⟩
                  case measure => simp [intOf]; omega
                · have n1 : (((t : Nat) : Int) == 0) = false := beq_eq_false_iff_ne.2 (by omega)
                  have n2 : ((t : Nat) : Int) > 0 := by omega
                  have n3 : ¬ ((t : Nat) : Int) < 3 := by omega
                  clear hy
                  have hTk := Lib.hid (show t ≤ k + 1 from by omega); clear ht hT h3
                  have fc0 := (st.box 0 rfl).f2
                  go_wp2
                  go_roundw
                  clear fc0
                  case rel => exact ⟨k + 1, t, y, by omega, by go_num, rfl, hTk.out, hy0.out, st⟩
                  case measure => simp [intOf]; omega
          · obtain rfl : k = l.length := by omega
            have fc0 := (st.box 0 rfl).f2
            go_wp2; go_ret; exact ⟨rfl, st.lo⟩
      · have h0 := Lib.hid (show stayI 2 c 0 from Or.inl ⟨rfl, hv1, hv2⟩)
        have HS := Lib.hid (fun (x : Ct) (a : Int) (t : Nat) (h : stayI 2 x t) => (show stayI 2 (addD x a) (if a = 1 then t + 1 else t) from stay_step (x := a) (v := 2) (by decide) h))
        have HX := Lib.hid (fun (x : Ct) (t : Nat) (h : stayI 2 x t) => (show (t = 0 → verD x = 2) ∧ (0 < t → t < 3 → verD x ≠ 1) from stay_ver (v := 2) (by decide) h))
        have HL := Lib.hid (fun (k : Nat) (v : Int) (hk : l[k]? = some v) => hll.hop k v hk)
        clear hv1 hv2 hll
        have st := Bs.in1 W 23 [.int .i64 c.vote, .int .i64 c.n]
        go_enter Try.func6, Try.ntmps6
        have fc0 := (st.box 0 rfl).f2
        go_wp2_with fail; refine callB st (TV0.out _) ?_; clear st fc0; intro V1 st
        have fc0 := (st.box 0 rfl).f2
        go_wp2_with fail; refine callB st (shown18 _) ?_; clear st fc0; intro V2 st
        have fc0 := (st.box 0 rfl).f2
        go_wp2
        clear fc0
        go_loopw [7, 8] (fun u i w => ∃ (k t : Nat) (x : Ct), k ≤ l.length ∧ i = .int .i64 k ∧ u = .int .i64 t ∧ t ≤ k ∧ stayI 2 x t ∧ Bs W w [(23, W.heap.size, [.int .i64 x.vote, .int .i64 x.n])]) (fun _ i _ => l.length - (intOf i).toNat)
        case atStart => exact ⟨0, 0, c, Nat.zero_le _, rfl, rfl, Nat.zero_le _, h0.out, st⟩
        case round =>
          clear st; obtain ⟨k, t, x, hk, rfl, rfl, ht, hx, st⟩ := hrel
          replace hx := Lib.hid hx
          by_cases hlt : k < l.length
          · obtain ⟨a, ha⟩ : ∃ a, l[k]? = some a := ⟨_, List.getElem?_eq_getElem hlt⟩
            obtain ⟨g, off, rfl, HC⟩ := HL.out k a ha; replace HC := Lib.hid HC
            have hy := Lib.hid (HS.out x a t hx.out)
            have TA := Lib.hid (fun (V : World) => own18Add x a V)
            clear hx
            generalize addD x a = y at *
            have TY := Lib.hid (fun (V : World) => own18Verdict y V)
            have j0 : (0 : Int) ≤ (k : Int) := by omega
            have j1 : (k : Int) < (l.length : Int) := by omega
            have j2 : ¬ 9223372036854775807 < (k : Int) + 1 := by omega
            clear ha HL h0
            go_wp2_with fail
            replace st := st.drew
            refine rh (fun w => w.cell? ⟨g, off + k, none⟩ = some (.int .i64 a)) (HC.out _ st.lo) fun hHeld => ?_
            generalize wr.drew = V3 at *
            refine tq 1 ?_; refine tq 2 ?_; refine tq 3 ?_; refine tq 4 ?_
            try simp only [Act.put, l1, l2, l3, l4, l5, l6]
            refine rd 0 fun K hK => ?_
            have fc0 := (st.box 0 rfl).f2
            go_simp
            try go_wp2_with fail
            clear hHeld fc0; refine hK.out _ _ (HC.out _ st.lo) fun hHeld => ?_; clear hK K
            try simp only [Act.put, l1, l2, l3, l4, l5, l6]
            refine rd 5 fun K hK => ?_
            have fc0 := (st.box 0 rfl).f2
            go_simp
            refine callB st (TA.out _) ?_; clear st fc0; intro V4 st
            have fc0 := (st.box 0 rfl).f2
            try go_wp2_with fail
            clear hHeld fc0; refine hK.out _ _ (HC.out _ st.lo) fun hHeld => ?_; clear hK K
            try simp only [Act.put, l1, l2, l3, l4, l5, l6]
            refine rd 6 fun K hK => ?_
            have fc0 := (st.box 0 rfl).f2
            go_simp
            try go_wp2_with fail
            clear fc0
            replace st := st.put2 0 (.int .i64 y.vote) (.int .i64 y.n) rfl; obtain ⟨V5, hV, st⟩ := st; rw [hV]; clear hV
            clear hHeld; refine hK.out _ _ (HC.out _ st.lo) fun hHeld => ?_; clear hK K
            try simp only [Act.put, l1, l2, l3, l4, l5, l6]
            refine wpAnyH_done (by kernel_rfl) ?_ _; clear hHeld
            have fc0 := (st.box 0 rfl).f2
            clear fc0
            have hc := HC.out _ st.lo; clear j2
            by_cases hao : a = 1
            · subst hao
              rw [if_pos rfl] at hy
              obtain ⟨T, hT⟩ : ∃ T, t + 1 = T := ⟨_, rfl⟩
              rw [hT] at hy
              have w1 : wrap64 ((t : Int) + 1) = (T : Int) := by unfold wrap64; omega
              have hy0 := hy
              replace hy := HX.out y T hy.out
              by_cases h3 : T < 3
              · have e1 := hy.2 (by omega) (by omega)
                have n1 : (((T : Nat) : Int) == 0) = false := beq_eq_false_iff_ne.2 (by omega)
                have n2 : ((T : Nat) : Int) > 0 := by omega
                have n3 : ((T : Nat) : Int) < 3 := by omega
                generalize verD y = vy at *
                have n4 : (vy == 1) = false := beq_eq_false_iff_ne.2 e1
                clear hy e1
                have hTk := Lib.hid (show T ≤ k + 1 from by omega); clear ht hT h3
                have fc0 := (st.box 0 rfl).f2
                go_wp2_with fail; refine callB st (TY.out _) ?_; clear st fc0; intro V6 st
                go_wp2
                go_roundw
                case rel => exact ⟨k + 1, T, y, by omega, by go_num, rfl, hTk.out, hy0.out, st⟩
                case measure => simp [intOf]; omega
              · have n1 : (((T : Nat) : Int) == 0) = false := beq_eq_false_iff_ne.2 (by omega)
                have n2 : ((T : Nat) : Int) > 0 := by omega
                have n3 : ¬ ((T : Nat) : Int) < 3 := by omega
                clear hy
                have hTk := Lib.hid (show T ≤ k + 1 from by omega); clear ht hT h3
                have fc0 := (st.box 0 rfl).f2
                go_wp2
                go_roundw
                clear fc0
                case rel => exact ⟨k + 1, T, y, by omega, by go_num, rfl, hTk.out, hy0.out, st⟩
                case measure => simp [intOf]; omega
            · have no : (a == 1) = false := beq_eq_false_iff_ne.2 hao
              rw [if_neg hao] at hy
              have hy0 := hy
              replace hy := HX.out y t hy.out
              clear hao
              by_cases hT : t = 0
              · subst hT; have e1 := (hy.1 rfl)
                rw [e1] at TY
                clear hy e1
                have hTk := Lib.hid (show 0 ≤ k + 1 from by omega); clear ht
                have fc0 := (st.box 0 rfl).f2
                go_wp2_with fail; refine callB st (TY.out _) ?_; clear st fc0; intro V6 st
                go_wp2
                go_roundw
                case rel => exact ⟨k + 1, 0, y, by omega, by go_num, rfl, hTk.out, hy0.out, st⟩
                case measure => simp [intOf]; omega
              · by_cases h3 : t < 3
                · have e1 := hy.2 (by omega) (by omega)
                  have n1 : (((t : Nat) : Int) == 0) = false := beq_eq_false_iff_ne.2 (by omega)
                  have n2 : ((t : Nat) : Int) > 0 := by omega
                  have n3 : ((t : Nat) : Int) < 3 := by omega
                  generalize verD y = vy at *
                  have n4 : (vy == 1) = false := beq_eq_false_iff_ne.2 e1
                  clear hy e1
                  have hTk := Lib.hid (show t ≤ k + 1 from by omega); clear ht hT h3
                  have fc0 := (st.box 0 rfl).f2
                  go_wp2_with fail; refine callB st (TY.out _) ?_; clear st fc0; intro V6 st
                  go_wp2
                  go_roundw
                  case rel => exact ⟨k + 1, t, y, by omega, by go_num, rfl, hTk.out, hy0.out, st⟩
                  case measure => simp [intOf]; omega
                · have n1 : (((t : Nat) : Int) == 0) = false := beq_eq_false_iff_ne.2 (by omega)
                  have n2 : ((t : Nat) : Int) > 0 := by omega
                  have n3 : ¬ ((t : Nat) : Int) < 3 := by omega
                  clear hy
                  have hTk := Lib.hid (show t ≤ k + 1 from by omega); clear ht hT h3
                  have fc0 := (st.box 0 rfl).f2
                  go_wp2
                  go_roundw
                  clear fc0
                  case rel => exact ⟨k + 1, t, y, by omega, by go_num, rfl, hTk.out, hy0.out, st⟩
                  case measure => simp [intOf]; omega
          · obtain rfl : k = l.length := by omega
            have fc0 := (st.box 0 rfl).f2
            go_wp2; go_ret; exact ⟨rfl, st.lo⟩

theorem own : ownKnob Try.prog.godebug = none := by kernel_rfl

set_option maxRecDepth 100000 in
theorem lifted (os : Os) (started : os.Started) (H : Type) (enc : TypeId × Value → H) :
    ReturnsInHanded {} Try.checked os 6 .any (Rows.debounceStaysSpec.pre6 enc Try.prog Try.f6 Rows.debounceStaysRow.domain false) (Rows.debounceStaysSpec.post enc Try.prog Try.f6 false true false false) := by
  refine returnsInHanded_of_change (C := Try.checked) own started (by kernel_rfl) Try.func6
    (ChangeSpec.witness6 (enc := enc) (C := Try.checked) false ⟨#[], #[.agg #[.int .i64 0, .int .i64 0], .slice none 0 0], []⟩ 8 (by kernel_rfl) (by kernel_rfl) (by kernel_rfl) (by kernel_rfl)) ?_
  intro W base args ds gs before hval hW _ _
  have hW' := hW
  obtain ⟨p, q, hA0, hV, rfl, hfz, hnd⟩ := hW
  have hA : DataW.TrodAll enc Try.prog W 0 (fun _ => true) true Try.f6.params.toList args.toList ds p := hA0
  rw [Try.params6] at hA hval
  obtain ⟨v0, vs0, d0, ds0, p0, q0, hargs, rfl, rfl, h0, r0⟩ := trodAll_cons hA
  obtain ⟨v1, vs1, d1, ds1, p1, q1, rfl, rfl, rfl, h1, r1⟩ := trodAll_cons r0
  obtain ⟨rfl, rfl, rfl⟩ := trodAll_nil r1
  obtain rfl : args = #[v0, v1] := by cases args; simp_all
  obtain ⟨rfl, rfl⟩ := trodVars_none hV
  have k0 := h0
  obtain ⟨s0, rfl, hs0⟩ := open_ct (hval 0 23 v0 rfl rfl) h0
  have k1 := h1
  obtain ⟨s1, A1, c1, rfl, hs1, ho1, hp1, hq1⟩ := open_ints (hval 1 24 v1 rfl rfl) h1
  clear hA0
  simp only [List.append_nil] at hW'
  refine (walk s0 s1 A1 c1 W hs0 hs1 ho1 hp1 hq1).mono fun e W' ⟨he, hB⟩ => ?_
  subst he
  exact ⟨_, rfl, ⟨_, _, _, [], _, [], hW', trodAll_cons_mk (shut_bool Try.underlying4 _) trodAll_mk0, (trodAll_cons_mk (Below.trod Try.laidOut (by kernel_rfl) (of_decide_eq_true (by kernel_rfl)) k0 hB (fun x hx => by simpa using hW'.lt x (by simp [hx]))) (trodAll_cons_mk (Below.trod Try.laidOut (by kernel_rfl) (of_decide_eq_true (by kernel_rfl)) k1 hB (fun x hx => by simpa using hW'.lt x (by simp [hx]))) trodAll_mk0)), rfl, hB.frame _, fun h => by cases h⟩⟩

theorem holds : Rows.DebounceStaysSaid :=
  OpenClaim.holds_of_wide 6 Try.f6 rfl rfl rfl rfl rfl rfl rfl ⟨rfl, rfl, rfl, rfl, rfl⟩ rfl rfl rfl rfl rfl (by kernel_rfl) Try.func6 (by kernel_rfl)
    (of_decide_eq_true (by kernel_rfl)) (by unfold Func.isWrapper; first | (rw [if_pos (by decide +kernel)]; kernel_rfl) | (rw [if_neg (by decide +kernel)]; exact ⟨rfl, rfl⟩))
    (fun os started H enc _ => lifted os started H enc)
end Go.Proofs.Ytokfglgghdeakaa.DebounceStays

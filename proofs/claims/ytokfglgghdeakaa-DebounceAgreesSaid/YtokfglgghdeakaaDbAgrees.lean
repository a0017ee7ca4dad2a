/- There is a verdict, from no votes on, just if the last three that say something say the same (DebounceAgrees); no condition. -/
import Derived.Test.YtokfglgghdeakaaRows
import Derived.Test.YtokfglgghdeakaaDebPlain
import Derived.Test.YtokfglgghdeakaaIntsAt
import Derived.Test.YtokfglgghdeakaaIntsOwn
import Derived.Test.YtokfglgghdeakaaBs
import Derived.Test.YtokfglgghdeakaaInts
import Derived.WalkKit
import Derived.ProofKit
import Derived.Lib.Hide
import Derived.OwnWalk
import Derived.Deep.RegionHeld3
import Derived.WalkLawsBesides
import Derived.WalkSpells
import Derived.IntWalk
import Derived.Test.YtokfglgghdeakaaDebOpen
import Derived.Test.YtokfglgghdeakaaDebOwn
import Derived.Test.YtokfglgghdeakaaDebRef
import Derived.Test.YtokfglgghdeakaaDebLaw
import Derived.Test.YtokfglgghdeakaaBase
import Derived.ProofKit
import Derived.OpenShut
import Derived.ChangeMaps5
import Derived.Test.YtokfglgghdeakaaInts
namespace Go.Proofs.Ytokfglgghdeakaa.DebounceAgrees
open Go.ChangeShapes Go.WideShapes Go.ChangeAt Go.RowKit Go.ChangeMaps
set_option linter.unusedVariables false
set_option linter.unusedSimpArgs false

set_option maxRecDepth 100000 in
set_option maxHeartbeats 4000000 in
theorem walk (l : List Int) (lA : Option Addr) (lc : Nat) (W : World) (hl : RowsAt 1 intV W lA l) (hlo : ∀ o ∈ l, -9223372036854775808 ≤ o ∧ o ≤ 9223372036854775807) (hl1 : l.length ≤ lc) (hl2 : lc ≤ maxLen) :
    Calls Try.prog 4 #[.slice lA l.length lc] W fun e W' => e = .returned (.bool true) ∧ Below W.heap.size W W' := by
  by_cases hbig : 100 < l.length
  · have m0 : (l.length : Int) > 100 := by omega
    clear hbig
    have st := Bs.nil W
    go_enter Try.func4, Try.ntmps4
    go_wp2_with fail; refine callB st (shown18 _) ?_; clear st; intro V1 st
    go_wp2; go_ret; exact ⟨rfl, st.lo⟩
  · have m0 : ¬ (l.length : Int) > 100 := by omega
    have hll := ints_of_rows hl
    obtain ⟨i0, hi, hz0, hz1, hz2⟩ := info_parts info_int0
    have TL := Lib.hid (fun (V : World) (hV : Below W.heap.size W V) => (show Gives Try.prog 10 #[.agg #[.int .i64 0, .int .i64 0], .slice lA l.length lc] V (.agg #[.int .i64 (allD ⟨0, 0⟩ l).vote, .int .i64 (allD ⟨0, 0⟩ l).n]) from own18All ⟨0, 0⟩ l lA lc V (hll.seq hV) ⟨hl1, hl2⟩))
    have TV := Lib.hid (fun (V : World) => own18Verdict (allD ⟨0, 0⟩ l) V)
    have HA := Lib.hid (fun (s : List Int) (h : l.filter says = s) => agreesD h)
    have HL := Lib.hid (fun (k : Nat) (v : Int) (hk : l[k]? = some v) => hll.hop k v hk)
    have HF := Lib.hid (fun (k : Nat) (v : Int) (hk : l[k]? = some v) => (show (l.take (k + 1)).filter says = (l.take k).filter says ++ [v].filter says from by rw [List.take_add_one, hk, List.filter_append]; rfl))
    have HE := Lib.hid (show (l.take l.length).filter says = l.filter says from by rw [List.take_length])
    generalize allD ⟨0, 0⟩ l = r at *
    generalize verD r = q at *
    clear hll hl hlo
    have st := Bs.nil W
    go_enter Try.func4, Try.ntmps4
    go_wp2_with fail; refine callB st (shown18 _) ?_; clear st; intro V1 st
    go_wp2
    obtain ⟨cb, hz⟩ : ∃ cb, V1.heap.size = cb := ⟨_, rfl⟩; rw [hz]
    have hown := World.ownsRow_made (base := V1.heap.size) (e := 3) (size := 1) V1 #[] 0 (Nat.le_refl _) (by simp) rfl; rw [hz] at hown
    have K : Below V1.heap.size V1 (V1.alloc (.cells #[] 3)) := (Below.refl _ _).alloc (Nat.le_refl _) _
    go_loopw [3, 4] (fun u i w => ∃ (k : Nat) (s : List Int), k ≤ l.length ∧ i = .int .i64 k ∧ (l.take k).filter says = s ∧ s.length ≤ k ∧ w.ownsRow cb 3 1 u s.length (s.map (Value.int .i64)) ∧ Below V1.heap.size V1 w) (fun _ i _ => l.length - (intOf i).toNat)
    case atStart => exact ⟨0, [], Nat.zero_le _, rfl, rfl, Nat.le_refl _, hown, K⟩
    case round =>
      clear hown K; obtain ⟨k, s, hk, rfl, hs, hsk, hown, K⟩ := hrel
      by_cases hlt : k < l.length
      · obtain ⟨a, ha⟩ : ∃ a, l[k]? = some a := ⟨_, List.getElem?_eq_getElem hlt⟩
        obtain ⟨g, off, rfl, HC⟩ := HL.out k a ha
        have hc := HC _ ((st.seq K).lo)
        have hf := HF.out k a ha; rw [hs] at hf; replace hf := Lib.hid hf
        have j0 : (0 : Int) ≤ (k : Int) := by omega
        have j1 : (k : Int) < (l.length : Int) := by omega
        clear HC ha HL HF HE hs TL TV HA
        by_cases h1 : a = 1
        · subst h1
          have hzk := K.size
          go_wp2_with (at_builtin; refine wpList_append_own _ rfl _ _ 24 rfl cb 3 i0 (.int .i64 0) 1 8 Try.underlying24 hi hz0 hz1 hz2 rfl (by decide) _ _ _ rfl (hown.alloc _) ⟨wr.heap.size, 0, none⟩ 1 1 [.int .i64 (1)] rfl rfl (cell_one_new _ _ _) ?c2 ?c3 ?c4 ?c5 ?_)
          case c2 => intro u hu; simp at hu; subst hu; rfl
          case c3 => unfold maxLen; omega
          case c4 => omega
          case c5 => (try simp); omega
          intro v' w1 hown' hgrow _
          have K' := (K.alloc K.size _).grown hgrow (by simp; omega) (fun j e => by have := (hown.lt j e).1; omega)
          have H3 := Lib.hid (show w1.ownsRow cb 3 1 v' (s ++ [1]).length ((s ++ [1]).map (Value.int .i64)) from by rw [List.length_append, List.map_append]; simpa using hown')
          clear hown' hown hgrow K hzk
          go_wp2
          go_roundw
          case rel => exact ⟨k + 1, s ++ [1], by omega, by go_num, hf.out, by simp; omega, H3.out, K'⟩
          case measure => simp [intOf]; omega
        · have n1 : (a == 1) = false := beq_eq_false_iff_ne.2 h1
          by_cases h2 : a = 2
          · subst h2
            clear h1
            have hzk := K.size
            go_wp2_with (at_builtin; refine wpList_append_own _ rfl _ _ 24 rfl cb 3 i0 (.int .i64 0) 1 8 Try.underlying24 hi hz0 hz1 hz2 rfl (by decide) _ _ _ rfl (hown.alloc _) ⟨wr.heap.size, 0, none⟩ 1 1 [.int .i64 (2)] rfl rfl (cell_one_new _ _ _) ?c2 ?c3 ?c4 ?c5 ?_)
            case c2 => intro u hu; simp at hu; subst hu; rfl
            case c3 => unfold maxLen; omega
            case c4 => omega
            case c5 => (try simp); omega
            intro v' w1 hown' hgrow _
            have K' := (K.alloc K.size _).grown hgrow (by simp; omega) (fun j e => by have := (hown.lt j e).1; omega)
            have H3 := Lib.hid (show w1.ownsRow cb 3 1 v' (s ++ [2]).length ((s ++ [2]).map (Value.int .i64)) from by rw [List.length_append, List.map_append]; simpa using hown')
            clear hown' hown hgrow K hzk
            go_wp2
            go_roundw
            case rel => exact ⟨k + 1, s ++ [2], by omega, by go_num, hf.out, by simp; omega, H3.out, K'⟩
            case measure => simp [intOf]; omega
          · have n2 : (a == 2) = false := beq_eq_false_iff_ne.2 h2
            have hf2 := hf.out; rw [show [a].filter says = [] from by unfold says; simp [h1, h2], List.append_nil] at hf2; replace hf2 := Lib.hid hf2; clear hf h1 h2
            have H3 := Lib.hid hown; have K' := K; clear hown K
            go_wp2
            go_roundw
            case rel => exact ⟨k + 1, s, by omega, by go_num, hf2.out, by omega, H3.out, K'⟩
            case measure => simp [intOf]; omega
      · obtain rfl : k = l.length := by omega
        obtain ⟨A, m, rfl, hA, hm1, hm2⟩ := ints_row hown; replace st := st.seq K
        have hq := HA.out s (HE.out.symm.trans hs)
        have hn : s.length ≤ 100 := by omega
        clear hown K hz HA HE HF HL hs hm1 hm2 hsk hlt
        by_cases h3 : s.length < 3
        · have e1 := hq.2 h3; subst e1
          have m3 : decide (3 ≤ (s.length : Int)) = false := decide_eq_false (by omega)
          clear hq h3 hA
          go_wp2_with fail; refine callB st (TL.out _ st.lo) ?_; clear st; intro V2 st
          go_wp2_with fail; refine callB st (TV.out _) ?_; clear st; intro V3 st
          go_wp2_with fail
          replace st := st.drew
          refine rh (fun w => True) trivial fun hHeld => ?_
          generalize V3.drew = V4 at *
          refine tq 0 ?_; try simp only [Act.put, l1, l2, l3, l4, l5, l6]
          refine tq 1 ?_; try simp only [Act.put, l1, l2, l3, l4, l5, l6]
          refine tq 2 ?_; try simp only [Act.put, l1, l2, l3, l4, l5, l6]
          refine sk 3 ?_; try simp only [Act.put, l1, l2, l3, l4, l5, l6]
          refine sk 4 ?_; try simp only [Act.put, l1, l2, l3, l4, l5, l6]
          refine sk 5 ?_; try simp only [Act.put, l1, l2, l3, l4, l5, l6]
          refine sk 6 ?_; try simp only [Act.put, l1, l2, l3, l4, l5, l6]
          refine sk 7 ?_; try simp only [Act.put, l1, l2, l3, l4, l5, l6]
          refine sk 8 ?_; try simp only [Act.put, l1, l2, l3, l4, l5, l6]
          refine sk 9 ?_; try simp only [Act.put, l1, l2, l3, l4, l5, l6]
          refine sk 10 ?_; try simp only [Act.put, l1, l2, l3, l4, l5, l6]
          refine sk 11 ?_; try simp only [Act.put, l1, l2, l3, l4, l5, l6]
          refine sk 12 ?_; try simp only [Act.put, l1, l2, l3, l4, l5, l6]
          refine sk 13 ?_; try simp only [Act.put, l1, l2, l3, l4, l5, l6]
          refine tq 14 ?_; try simp only [Act.put, l1, l2, l3, l4, l5, l6]
          refine tq 15 ?_; try simp only [Act.put, l1, l2, l3, l4, l5, l6]
          refine sk 16 ?_; try simp only [Act.put, l1, l2, l3, l4, l5, l6]
          refine sk 17 ?_; try simp only [Act.put, l1, l2, l3, l4, l5, l6]
          refine sk 18 ?_; try simp only [Act.put, l1, l2, l3, l4, l5, l6]
          refine sk 19 ?_; try simp only [Act.put, l1, l2, l3, l4, l5, l6]
          refine sk 20 ?_; try simp only [Act.put, l1, l2, l3, l4, l5, l6]
          refine sk 21 ?_; try simp only [Act.put, l1, l2, l3, l4, l5, l6]
          refine sk 22 ?_; try simp only [Act.put, l1, l2, l3, l4, l5, l6]
          refine sk 23 ?_; try simp only [Act.put, l1, l2, l3, l4, l5, l6]
          refine sk 24 ?_; try simp only [Act.put, l1, l2, l3, l4, l5, l6]
          refine sk 25 ?_; try simp only [Act.put, l1, l2, l3, l4, l5, l6]
          refine sk 26 ?_; try simp only [Act.put, l1, l2, l3, l4, l5, l6]
          refine tq 27 ?_; try simp only [Act.put, l1, l2, l3, l4, l5, l6]
          refine wpAnyH_done (by kernel_rfl) ?_ _; clear hHeld
          go_wp2; go_ret; exact ⟨rfl, st.lo⟩
        · obtain ⟨x, hx⟩ : ∃ x, s[s.length - 1]? = some x := ⟨_, List.getElem?_eq_getElem (by omega)⟩
          obtain ⟨y, hy⟩ : ∃ y, s[s.length - 2]? = some y := ⟨_, List.getElem?_eq_getElem (by omega)⟩
          obtain ⟨u3, hw⟩ : ∃ u3, s[s.length - 3]? = some u3 := ⟨_, List.getElem?_eq_getElem (by omega)⟩
          have e1 := hq.1 x y u3 (by omega) hx hy hw
          obtain ⟨g, off, rfl, hg, hcc⟩ := hA (by omega)
          have c1 := hcc _ _ hx; have c2 := hcc _ _ hy; have c3 := hcc _ _ hw
          obtain ⟨d1, hd1⟩ : ∃ d1 : Nat, s.length - 1 = d1 := ⟨_, rfl⟩
          obtain ⟨d2, hd2⟩ : ∃ d2 : Nat, s.length - 2 = d2 := ⟨_, rfl⟩
          obtain ⟨d3, hd3⟩ : ∃ d3 : Nat, s.length - 3 = d3 := ⟨_, rfl⟩
          rw [hd1] at c1; rw [hd2] at c2; rw [hd3] at c3
          have w1 : IntKind.i64.wrap ((s.length : Int) - 1) = (d1 : Int) := by rw [IntWalk.i64_in _ (by omega)]; omega
          have w2 : IntKind.i64.wrap ((s.length : Int) - 2) = (d2 : Int) := by rw [IntWalk.i64_in _ (by omega)]; omega
          have w3 : IntKind.i64.wrap ((s.length : Int) - 3) = (d3 : Int) := by rw [IntWalk.i64_in _ (by omega)]; omega
          have v1 : wrap64 ((s.length : Int) - 1) = (d1 : Int) := by unfold wrap64; omega
          have i1 : (d1 : Int) < (s.length : Int) := by omega
          have i2 : (d2 : Int) < (s.length : Int) := by omega
          have i3 : (d3 : Int) < (s.length : Int) := by omega
          have z1 : (0 : Int) ≤ (d1 : Int) := by omega
          have z2 : (0 : Int) ≤ (d2 : Int) := by omega
          have z3 : (0 : Int) ≤ (d3 : Int) := by omega
          have m3 : decide (3 ≤ (s.length : Int)) = true := decide_eq_true (by omega)
          have HA1 := Lib.hid (fun (V : World) (hV : Below wr.heap.size wr V) => (show V.cell? ⟨g, off + d1, none⟩ = some (.int .i64 x) ∧ V.cell? ⟨g, off + d2, none⟩ = some (.int .i64 y) ∧ V.cell? ⟨g, off + d3, none⟩ = some (.int .i64 u3) from ⟨(hV.cell (p := ⟨g, _, none⟩) hg).trans c1, (hV.cell (p := ⟨g, _, none⟩) hg).trans c2, (hV.cell (p := ⟨g, _, none⟩) hg).trans c3⟩))
          clear c1 c2 c3 hcc hx hy hw hd1 hd2 hd3 hq h3 hn hg
          by_cases hxy : x = y
          · subst hxy
            have n4 : (x == x) = true := beq_self_eq_true _
            by_cases hyw : x = u3
            · subst hyw
              rw [if_pos ⟨rfl, rfl⟩] at e1; subst e1
              have hwV : Below wr.heap.size wr wr := Below.refl _ _
              go_wp2_with fail; refine (TL.out _ st.lo).mono ?_; rintro e V2 ⟨rfl, hk⟩
              replace st := st.seq hk; replace hwV := below_seq hwV hk; clear hk
              go_wp2_with fail; refine (TV.out _).mono ?_; rintro e V3 ⟨rfl, hk⟩
              replace st := st.seq hk; replace hwV := below_seq hwV hk; clear hk
              go_wp2_with fail
              replace hwV := hwV.drew
              replace st := st.drew
              refine rh (fun w => w.cell? ⟨g, off + d1, none⟩ = some (.int .i64 q) ∧ w.cell? ⟨g, off + d2, none⟩ = some (.int .i64 q) ∧ w.cell? ⟨g, off + d3, none⟩ = some (.int .i64 q)) ⟨(HA1.out _ hwV).1, (HA1.out _ hwV).2.1, (HA1.out _ hwV).2.2⟩ fun hHeld => ?_
              generalize V3.drew = V4 at *
              refine tq 0 ?_; try simp only [Act.put, l1, l2, l3, l4, l5, l6]
              refine tq 1 ?_; try simp only [Act.put, l1, l2, l3, l4, l5, l6]
              refine tq 2 ?_; try simp only [Act.put, l1, l2, l3, l4, l5, l6]
              refine tq 3 ?_; try simp only [Act.put, l1, l2, l3, l4, l5, l6]
              refine tq 4 ?_; try simp only [Act.put, l1, l2, l3, l4, l5, l6]
              refine tq 5 ?_; try simp only [Act.put, l1, l2, l3, l4, l5, l6]
              refine tq 6 ?_; try simp only [Act.put, l1, l2, l3, l4, l5, l6]
              refine tq 7 ?_; try simp only [Act.put, l1, l2, l3, l4, l5, l6]
              refine tq 8 ?_; try simp only [Act.put, l1, l2, l3, l4, l5, l6]
              refine tq 9 ?_; try simp only [Act.put, l1, l2, l3, l4, l5, l6]
              refine tq 10 ?_; try simp only [Act.put, l1, l2, l3, l4, l5, l6]
              refine tq 11 ?_; try simp only [Act.put, l1, l2, l3, l4, l5, l6]
              refine tq 12 ?_; try simp only [Act.put, l1, l2, l3, l4, l5, l6]
              refine tq 13 ?_; try simp only [Act.put, l1, l2, l3, l4, l5, l6]
              refine tq 14 ?_; try simp only [Act.put, l1, l2, l3, l4, l5, l6]
              refine tq 15 ?_; try simp only [Act.put, l1, l2, l3, l4, l5, l6]
              refine tq 16 ?_; try simp only [Act.put, l1, l2, l3, l4, l5, l6]
              refine tq 17 ?_; try simp only [Act.put, l1, l2, l3, l4, l5, l6]
              refine tq 18 ?_; try simp only [Act.put, l1, l2, l3, l4, l5, l6]
              refine tq 19 ?_; try simp only [Act.put, l1, l2, l3, l4, l5, l6]
              refine tq 20 ?_; try simp only [Act.put, l1, l2, l3, l4, l5, l6]
              refine tq 21 ?_; try simp only [Act.put, l1, l2, l3, l4, l5, l6]
              refine tq 22 ?_; try simp only [Act.put, l1, l2, l3, l4, l5, l6]
              refine tq 23 ?_; try simp only [Act.put, l1, l2, l3, l4, l5, l6]
              refine tq 24 ?_; try simp only [Act.put, l1, l2, l3, l4, l5, l6]
              refine tq 25 ?_; try simp only [Act.put, l1, l2, l3, l4, l5, l6]
              refine tq 26 ?_; try simp only [Act.put, l1, l2, l3, l4, l5, l6]
              refine tq 27 ?_; try simp only [Act.put, l1, l2, l3, l4, l5, l6]
              refine wpAnyH_done (by kernel_rfl) ?_ _; clear hHeld
              have y1 := (HA1.out _ hwV).1
              go_wp2; go_ret; exact ⟨rfl, st.lo⟩
            · have n5 : (x == u3) = false := beq_eq_false_iff_ne.2 hyw
              rw [if_neg (fun k => hyw k.2)] at e1; subst e1; clear hyw
              have hwV : Below wr.heap.size wr wr := Below.refl _ _
              go_wp2_with fail; refine (TL.out _ st.lo).mono ?_; rintro e V2 ⟨rfl, hk⟩
              replace st := st.seq hk; replace hwV := below_seq hwV hk; clear hk
              go_wp2_with fail; refine (TV.out _).mono ?_; rintro e V3 ⟨rfl, hk⟩
              replace st := st.seq hk; replace hwV := below_seq hwV hk; clear hk
              go_wp2_with fail
              replace hwV := hwV.drew
              replace st := st.drew
              refine rh (fun w => w.cell? ⟨g, off + d1, none⟩ = some (.int .i64 x) ∧ w.cell? ⟨g, off + d2, none⟩ = some (.int .i64 x) ∧ w.cell? ⟨g, off + d3, none⟩ = some (.int .i64 u3)) ⟨(HA1.out _ hwV).1, (HA1.out _ hwV).2.1, (HA1.out _ hwV).2.2⟩ fun hHeld => ?_
              generalize V3.drew = V4 at *
              refine tq 0 ?_; try simp only [Act.put, l1, l2, l3, l4, l5, l6]
              refine tq 1 ?_; try simp only [Act.put, l1, l2, l3, l4, l5, l6]
              refine tq 2 ?_; try simp only [Act.put, l1, l2, l3, l4, l5, l6]
              refine tq 3 ?_; try simp only [Act.put, l1, l2, l3, l4, l5, l6]
              refine tq 4 ?_; try simp only [Act.put, l1, l2, l3, l4, l5, l6]
              refine tq 5 ?_; try simp only [Act.put, l1, l2, l3, l4, l5, l6]
              refine tq 6 ?_; try simp only [Act.put, l1, l2, l3, l4, l5, l6]
              refine tq 7 ?_; try simp only [Act.put, l1, l2, l3, l4, l5, l6]
              refine tq 8 ?_; try simp only [Act.put, l1, l2, l3, l4, l5, l6]
              refine tq 9 ?_; try simp only [Act.put, l1, l2, l3, l4, l5, l6]
              refine tq 10 ?_; try simp only [Act.put, l1, l2, l3, l4, l5, l6]
              refine tq 11 ?_; try simp only [Act.put, l1, l2, l3, l4, l5, l6]
              refine tq 12 ?_; try simp only [Act.put, l1, l2, l3, l4, l5, l6]
              refine tq 13 ?_; try simp only [Act.put, l1, l2, l3, l4, l5, l6]
              refine tq 14 ?_; try simp only [Act.put, l1, l2, l3, l4, l5, l6]
              refine tq 15 ?_; try simp only [Act.put, l1, l2, l3, l4, l5, l6]
              refine tq 16 ?_; try simp only [Act.put, l1, l2, l3, l4, l5, l6]
              refine tq 17 ?_; try simp only [Act.put, l1, l2, l3, l4, l5, l6]
              refine tq 18 ?_; try simp only [Act.put, l1, l2, l3, l4, l5, l6]
              refine tq 19 ?_; try simp only [Act.put, l1, l2, l3, l4, l5, l6]
              refine tq 20 ?_; try simp only [Act.put, l1, l2, l3, l4, l5, l6]
              refine tq 21 ?_; try simp only [Act.put, l1, l2, l3, l4, l5, l6]
              refine tq 22 ?_; try simp only [Act.put, l1, l2, l3, l4, l5, l6]
              refine tq 23 ?_; try simp only [Act.put, l1, l2, l3, l4, l5, l6]
              refine tq 24 ?_; try simp only [Act.put, l1, l2, l3, l4, l5, l6]
              refine tq 25 ?_; try simp only [Act.put, l1, l2, l3, l4, l5, l6]
              refine tq 26 ?_; try simp only [Act.put, l1, l2, l3, l4, l5, l6]
              refine tq 27 ?_; try simp only [Act.put, l1, l2, l3, l4, l5, l6]
              refine wpAnyH_done (by kernel_rfl) ?_ _; clear hHeld
              have y1 := (HA1.out _ hwV).1
              go_wp2; go_ret; exact ⟨rfl, st.lo⟩
          · have n4 : (x == y) = false := beq_eq_false_iff_ne.2 hxy
            rw [if_neg (fun k => hxy k.1)] at e1; subst e1; clear hxy
            have hwV : Below wr.heap.size wr wr := Below.refl _ _
            go_wp2_with fail; refine (TL.out _ st.lo).mono ?_; rintro e V2 ⟨rfl, hk⟩
            replace st := st.seq hk; replace hwV := below_seq hwV hk; clear hk
            go_wp2_with fail; refine (TV.out _).mono ?_; rintro e V3 ⟨rfl, hk⟩
            replace st := st.seq hk; replace hwV := below_seq hwV hk; clear hk
            go_wp2_with fail
            replace hwV := hwV.drew
            replace st := st.drew
            refine rh (fun w => w.cell? ⟨g, off + d1, none⟩ = some (.int .i64 x) ∧ w.cell? ⟨g, off + d2, none⟩ = some (.int .i64 y) ∧ w.cell? ⟨g, off + d3, none⟩ = some (.int .i64 u3)) ⟨(HA1.out _ hwV).1, (HA1.out _ hwV).2.1, (HA1.out _ hwV).2.2⟩ fun hHeld => ?_
            generalize V3.drew = V4 at *
            refine tq 0 ?_; try simp only [Act.put, l1, l2, l3, l4, l5, l6]
            refine tq 1 ?_; try simp only [Act.put, l1, l2, l3, l4, l5, l6]
            refine tq 2 ?_; try simp only [Act.put, l1, l2, l3, l4, l5, l6]
            refine tq 3 ?_; try simp only [Act.put, l1, l2, l3, l4, l5, l6]
            refine tq 4 ?_; try simp only [Act.put, l1, l2, l3, l4, l5, l6]
            refine tq 5 ?_; try simp only [Act.put, l1, l2, l3, l4, l5, l6]
            refine tq 6 ?_; try simp only [Act.put, l1, l2, l3, l4, l5, l6]
            refine tq 7 ?_; try simp only [Act.put, l1, l2, l3, l4, l5, l6]
            refine tq 8 ?_; try simp only [Act.put, l1, l2, l3, l4, l5, l6]
            refine tq 9 ?_; try simp only [Act.put, l1, l2, l3, l4, l5, l6]
            refine tq 10 ?_; try simp only [Act.put, l1, l2, l3, l4, l5, l6]
            refine tq 11 ?_; try simp only [Act.put, l1, l2, l3, l4, l5, l6]
            refine tq 12 ?_; try simp only [Act.put, l1, l2, l3, l4, l5, l6]
            refine tq 13 ?_; try simp only [Act.put, l1, l2, l3, l4, l5, l6]
            refine tq 14 ?_; try simp only [Act.put, l1, l2, l3, l4, l5, l6]
            refine tq 15 ?_; try simp only [Act.put, l1, l2, l3, l4, l5, l6]
            refine sk 16 ?_; try simp only [Act.put, l1, l2, l3, l4, l5, l6]
            refine sk 17 ?_; try simp only [Act.put, l1, l2, l3, l4, l5, l6]
            refine sk 18 ?_; try simp only [Act.put, l1, l2, l3, l4, l5, l6]
            refine sk 19 ?_; try simp only [Act.put, l1, l2, l3, l4, l5, l6]
            refine sk 20 ?_; try simp only [Act.put, l1, l2, l3, l4, l5, l6]
            refine sk 21 ?_; try simp only [Act.put, l1, l2, l3, l4, l5, l6]
            refine sk 22 ?_; try simp only [Act.put, l1, l2, l3, l4, l5, l6]
            refine sk 23 ?_; try simp only [Act.put, l1, l2, l3, l4, l5, l6]
            refine sk 24 ?_; try simp only [Act.put, l1, l2, l3, l4, l5, l6]
            refine sk 25 ?_; try simp only [Act.put, l1, l2, l3, l4, l5, l6]
            refine sk 26 ?_; try simp only [Act.put, l1, l2, l3, l4, l5, l6]
            refine tq 27 ?_; try simp only [Act.put, l1, l2, l3, l4, l5, l6]
            refine wpAnyH_done (by kernel_rfl) ?_ _; clear hHeld
            have y1 := (HA1.out _ hwV).1
            go_wp2; go_ret; exact ⟨rfl, st.lo⟩

theorem own : ownKnob Try.prog.godebug = none := by kernel_rfl

set_option maxRecDepth 100000 in
theorem lifted (os : Os) (started : os.Started) (H : Type) (enc : TypeId × Value → H) :
    ReturnsInHanded {} Try.checked os 4 .any (Rows.debounceAgreesSpec.pre6 enc Try.prog Try.f4 Rows.debounceAgreesRow.domain false) (Rows.debounceAgreesSpec.post enc Try.prog Try.f4 false true false false) := by
  refine returnsInHanded_of_change (C := Try.checked) own started (by kernel_rfl) Try.func4
    (ChangeSpec.witness6 (enc := enc) (C := Try.checked) false ⟨#[], #[.slice none 0 0], []⟩ 8 (by kernel_rfl) (by kernel_rfl) (by kernel_rfl) (by kernel_rfl)) ?_
  intro W base args ds gs before hval hW _ _
  have hW' := hW
  obtain ⟨p, q, hA0, hV, rfl, hfz, hnd⟩ := hW
  have hA : DataW.TrodAll enc Try.prog W 0 (fun _ => true) true Try.f4.params.toList args.toList ds p := hA0
  rw [Try.params4] at hA hval
  obtain ⟨v0, vs0, d0, ds0, p0, q0, hargs, rfl, rfl, h0, r0⟩ := trodAll_cons hA
  obtain ⟨rfl, rfl, rfl⟩ := trodAll_nil r0
  obtain rfl : args = #[v0] := by cases args; simp_all
  obtain ⟨rfl, rfl⟩ := trodVars_none hV
  have k0 := h0
  obtain ⟨s0, A0, c0, rfl, hs0, ho0, hp0, hq0⟩ := open_ints (hval 0 24 v0 rfl rfl) h0
  clear hA0
  simp only [List.append_nil] at hW'
  refine (walk s0 A0 c0 W hs0 ho0 hp0 hq0).mono fun e W' ⟨he, hB⟩ => ?_
  subst he
  exact ⟨_, rfl, ⟨_, _, _, [], _, [], hW', trodAll_cons_mk (shut_bool Try.underlying4 _) trodAll_mk0, (trodAll_cons_mk (Below.trod Try.laidOut (by kernel_rfl) (of_decide_eq_true (by kernel_rfl)) k0 hB (fun x hx => by simpa using hW'.lt x (by simp [hx]))) trodAll_mk0), rfl, hB.frame _, fun h => by cases h⟩⟩

theorem holds : Rows.DebounceAgreesSaid :=
  OpenClaim.holds_of_wide 4 Try.f4 rfl rfl rfl rfl rfl rfl rfl ⟨rfl, rfl, rfl, rfl, rfl⟩ rfl rfl rfl rfl rfl (by kernel_rfl) Try.func4 (by kernel_rfl)
    (of_decide_eq_true (by kernel_rfl)) (by unfold Func.isWrapper; first | (rw [if_pos (by decide +kernel)]; kernel_rfl) | (rw [if_neg (by decide +kernel)]; exact ⟨rfl, rfl⟩))
    (fun os started H enc _ => lifted os started H enc)
end Go.Proofs.Ytokfglgghdeakaa.DebounceAgrees

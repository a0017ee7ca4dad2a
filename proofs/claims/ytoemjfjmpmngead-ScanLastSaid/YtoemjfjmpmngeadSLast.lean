/- The last record is in a slot that is good, and no good one has a greater number; there is one just if some slot is good (ScanLast); no condition. -/
import Derived.Test.YtoemjfjmpmngeadScanLaw
import Derived.Test.YtoemjfjmpmngeadBankRef
import Derived.Deep.RegionHeld3
import Derived.WalkLawsBesides
import Derived.WalkSpells
import Derived.IntWalk
import Derived.Lib.Hide
import Derived.Test.YtoemjfjmpmngeadBox
import Derived.Test.YtoemjfjmpmngeadLayout
import Derived.ProofKit
import Derived.OpenShut
import Derived.ChangeMaps5
import Derived.Test.YtoemjfjmpmngeadInts
namespace Go.Proofs.Ytoemjfjmpmngead.ScanLast
open Go.ChangeShapes Go.WideShapes Go.ChangeAt Go.RowKit Go.ChangeMaps
set_option linter.unusedVariables false
set_option linter.unusedSimpArgs false
theorem stOf_two {l : List UInt8} {i : Int} (h : stOf l i = 2) : decE l = 0 ∧ ((decR l).kind = 1 ↔ i = 0) := by
  unfold stOf at h
  split at h
  · exact absurd h (by decide)
  · split at h
    · rename_i h2; exact h2
    · exact absurd h (by decide)


set_option maxRecDepth 100000 in
set_option maxHeartbeats 32000000 in
theorem walk (s : ByteArray) (W : World) (hs : s.size ≤ maxLen) :
    Calls Try.prog 8 #[.string s] W fun e W' => e = .returned (.bool true) ∧ Below W.heap.size W W' := by
  by_cases hbig : 400 < s.size
  · have b1 : (s.size : Int) > 400 := by omega
    have hB : Below W.heap.size W W := Below.refl _ _
    go_enter Try.func8, Try.ntmps8
    go_wp2_with fail
    refine (shown09 _).mono ?_
    rintro e V1 ⟨rfl, hk⟩
    replace hB := below_seq hB hk
    clear hk
    go_wp2
    go_ret
    exact ⟨rfl, hB⟩
  · have b1 : ¬ (s.size : Int) > 400 := by omega
    have z1 : s.size ≤ maxLen := by unfold maxLen; omega
    have TL := Lib.hid (fun (V : World) => (show Calls Try.prog 21 #[.int .i64 (s.size : Int)] V fun e W' => e = .returned (.int .i64 (slotsN s : Int)) ∧ W' = V from by have h := ref05Slots (s.size : Int) V; rwa [← slotsN_eq] at h))
    have TS := Lib.hid (fun (j : Nat) (V : World) (h : j < 13) => ref08State s (((j + 1 : Nat)) : Int) V z1 ⟨by omega, by omega⟩)
    have TGd := Lib.hid (fun (V : World) => own09Good s V z1)
    have TLa := Lib.hid (fun (V : World) => own09Last s V z1)
    have hN := slotsN_le s
    have TR := Lib.hid (fun (j : Nat) (V : World) (h : j < 13) (h2 : stateF s ((j : Int) + 1) = 2) => (show Calls Try.prog 27 #[.string s, .int .i64 ((j + 1 : Nat) : Int)] V fun e W' => e = .returned (.tuple #[.agg #[.int .i64 (recF s ((j : Int) + 1)).kind, .int .u64 ((recF s ((j : Int) + 1)).seq : Int), .int .u64 ((recF s ((j : Int) + 1)).data : Int)], .int .i64 0]) ∧ Below V.heap.size V W' from by
      have h3 := ref08Record s ((j + 1 : Nat) : Int) V z1 ⟨by omega, by omega⟩
      rw [show ((j + 1 : Nat) : Int) = (j : Int) + 1 from by omega] at h3 ⊢
      rwa [(stOf_two h2).1] at h3))
    have HS := Lib.hid (fun (j : Nat) (h : ¬ stateF s ((j : Int) + 1) = 2) => (show goodG s (j + 1) = goodG s j ∧ foundG s (lastR s) (j + 1) = foundG s (lastR s) j from ⟨by rw [goodG, if_neg h]; rfl, by rw [foundG, beq_eq_false_iff_ne.2 h]; simp⟩))
    have HT := Lib.hid (fun (j : Nat) (hj : j < slotsN s) (h : stateF s ((j : Int) + 1) = 2) => (show goodG s (j + 1) = goodG s j + 1 ∧ foundG s (lastR s) (j + 1) = (foundG s (lastR s) j || recB (lastR s) (recF s ((j : Int) + 1))) ∧ lastE s = 0 ∧ ¬ ((recF s ((j : Int) + 1)).seq : Int) > ((lastR s).seq : Int) from ⟨by rw [goodG, if_pos h], by rw [foundG, beq_iff_eq.2 h]; simp, (last_le hj h).1, by have := (last_le hj h).2; omega⟩))
    have HE := Lib.hid (found_last s)
    have HGle := Lib.hid (fun (j : Nat) => goodG_le s j)
    have hfz : foundG s (lastR s) 0 = false := rfl
    have hgz : goodG s 0 = 0 := rfl
    have HGN := Lib.hid (show goodG s (slotsN s) = goodN s from rfl)
    obtain ⟨n, hn⟩ : ∃ n, slotsN s = n := ⟨_, rfl⟩
    rw [hn] at hN TL HT HE HGN
    clear hn
    generalize lastR s = b at *
    generalize lastE s = E at *
    have hB : Below W.heap.size W W := Below.refl _ _
    go_enter Try.func8, Try.ntmps8
    go_wp2_with fail
    refine (shown09 _).mono ?_
    rintro e V1 ⟨rfl, hk⟩
    replace hB := below_seq hB hk
    clear hk
    go_wp2_with fail
    refine (TLa.out _).mono ?_
    rintro e V2 ⟨rfl, hk⟩
    replace hB := below_seq hB hk
    clear hk
    have xr := Box.new 24 V2 [.int .i64 b.kind, .int .u64 (b.seq : Int), .int .u64 (b.data : Int)]
    have le_xr : W.heap.size ≤ V2.heap.size := hB.size
    replace hB := hB.alloc hB.size (.cells #[.int .i64 b.kind, .int .u64 (b.seq : Int), .int .u64 (b.data : Int)] 24)
    have xr0 := xr.cell 0 rfl
    have xrz0 := xr.frozen 0
    have xr1 := xr.cell 1 rfl
    have xrz1 := xr.frozen 1
    have xr2 := xr.cell 2 rfl
    have xrz2 := xr.frozen 2
    go_wp2
    clear xr0 xrz0 xr1 xrz1 xr2 xrz2
    go_loopw [5, 6, 7] (fun f k i w => ∃ j : Nat, j ≤ n ∧ i = .int .i64 ((j + 1 : Nat) : Int) ∧ k = .int .i64 (goodG s j : Int) ∧ f = .bool (foundG s b j) ∧ Box 24 w V2.heap.size [.int .i64 b.kind, .int .u64 (b.seq : Int), .int .u64 (b.data : Int)] ∧ Below W.heap.size W w) (fun _ _ i _ => n + 1 - (intOf i).toNat)
    case atStart => exact ⟨0, by omega, rfl, by rw [hgz]; rfl, by rw [hfz], xr, hB⟩
    case round =>
      clear xr hB le_xr
      obtain ⟨j, hj, rfl, rfl, rfl, xr, hB⟩ := hrel
      have hgle := HGle.out j
      by_cases hlt : j < n
      · have i1 : ((j + 1 : Nat) : Int) ≤ (n : Int) := by omega
        have xr0 := xr.cell 0 rfl
        have xrz0 := xr.frozen 0
        have xr1 := xr.cell 1 rfl
        have xrz1 := xr.frozen 1
        have xr2 := xr.cell 2 rfl
        have xrz2 := xr.frozen 2
        go_wp2_with fail
        refine (TL.out _).mono ?_
        rintro e w' ⟨rfl, hw⟩
        rw [hw]
        clear hw w'
        go_wp2_with fail
        refine (TS.out j _ (by omega)).mono ?_
        rintro e V3 ⟨rfl, hk⟩
        clear xr0 xrz0 xr1 xrz1 xr2 xrz2
        replace hB := below_seq hB hk
        replace xr := xr.seq hk
        clear hk
        have xr0 := xr.cell 0 rfl
        have xrz0 := xr.frozen 0
        have xr1 := xr.cell 1 rfl
        have xrz1 := xr.frozen 1
        have xr2 := xr.cell 2 rfl
        have xrz2 := xr.frozen 2
        have e1 : ((j + 1 : Nat) : Int) = (j : Int) + 1 := by omega
        try rw [e1]
        by_cases hst : stateF s ((j : Int) + 1) = 2
        · obtain ⟨hg, hf, hE, hq⟩ := HT.out j hlt hst
          have n1 : (stateF s ((j : Int) + 1) != 2) = false := by rw [hst]; rfl
          have TRj := Lib.hid (fun (V : World) => TR.out j V (by omega) hst)
          replace hg := Lib.hid hg
          replace hf := Lib.hid hf
          have wg : IntKind.i64.wrap ((goodG s j : Int) + 1) = (goodG s j : Int) + 1 := IntWalk.i64_in _ (by omega)
          generalize stateF s ((j : Int) + 1) = st at *
          clear hst
          generalize recF s ((j : Int) + 1) = y at *
          subst hE
          go_wp2_with fail
          refine (TRj.out _).mono ?_
          rintro e V4 ⟨rfl, hk⟩
          clear xr0 xrz0 xr1 xrz1 xr2 xrz2
          replace hB := below_seq hB hk
          replace xr := xr.seq hk
          clear hk
          have xx := Box.new 43 V4 [.int .i64 y.kind, .int .u64 (y.seq : Int), .int .u64 (y.data : Int)]
          have ne_xx_xr : V4.heap.size ≠ V2.heap.size := Nat.ne_of_gt xr.lt
          have le_xx : W.heap.size ≤ V4.heap.size := hB.size
          replace xr := xr.alloc (.cells #[.int .i64 y.kind, .int .u64 (y.seq : Int), .int .u64 (y.data : Int)] 43)
          replace hB := hB.alloc hB.size (.cells #[.int .i64 y.kind, .int .u64 (y.seq : Int), .int .u64 (y.data : Int)] 43)
          have xr0 := xr.cell 0 rfl
          have xrz0 := xr.frozen 0
          have xr1 := xr.cell 1 rfl
          have xrz1 := xr.frozen 1
          have xr2 := xr.cell 2 rfl
          have xrz2 := xr.frozen 2
          have xx0 := xx.cell 0 rfl
          have xxz0 := xx.frozen 0
          have xx1 := xx.cell 1 rfl
          have xxz1 := xx.frozen 1
          have xx2 := xx.cell 2 rfl
          have xxz2 := xx.frozen 2
          cases hfj : foundG s b j
          · skip
            by_cases hby : b = y
            · subst hby
              have hrb : recB b b = true := (recB_iff b b).2 rfl
              go_wp2
              go_roundw
              clear xr0 xrz0 xr1 xrz1 xr2 xrz2 xx0 xxz0 xx1 xxz1 xx2 xxz2
              case rel => exact ⟨j + 1, by omega, by go_num, by rw [hg.out]; rfl, by rw [hf.out, hfj]; first | rfl | (rw [hrb]; rfl), xr, hB⟩
              case measure => simp [intOf]; omega
            · have hrb : recB b y = false := by
                cases hx : recB b y with
                | false => rfl
                | true => exact absurd ((recB_iff b y).1 hx) hby
              have hne : ¬ b.kind = y.kind ∨ ¬ (b.seq : Int) = (y.seq : Int) ∨ ¬ (b.data : Int) = (y.data : Int) := by
                refine Classical.byContradiction fun hn => hby ?_
                cases b; cases y; dsimp only at hn; simp only [not_or, Classical.not_not] at hn; congr 1 <;> omega
              clear hby
              rcases hne with k0 | k0 | k0
              · skip
                go_wp2
                go_roundw
                clear xr0 xrz0 xr1 xrz1 xr2 xrz2 xx0 xxz0 xx1 xxz1 xx2 xxz2
                case rel => exact ⟨j + 1, by omega, by go_num, by rw [hg.out]; rfl, by rw [hf.out, hfj]; first | rfl | (rw [hrb]; rfl), xr, hB⟩
                case measure => simp [intOf]; omega
              · skip
                go_wp2
                go_roundw
                clear xr0 xrz0 xr1 xrz1 xr2 xrz2 xx0 xxz0 xx1 xxz1 xx2 xxz2
                case rel => exact ⟨j + 1, by omega, by go_num, by rw [hg.out]; rfl, by rw [hf.out, hfj]; first | rfl | (rw [hrb]; rfl), xr, hB⟩
                case measure => simp [intOf]; omega
              · skip
                go_wp2
                go_roundw
                clear xr0 xrz0 xr1 xrz1 xr2 xrz2 xx0 xxz0 xx1 xxz1 xx2 xxz2
                case rel => exact ⟨j + 1, by omega, by go_num, by rw [hg.out]; rfl, by rw [hf.out, hfj]; first | rfl | (rw [hrb]; rfl), xr, hB⟩
                case measure => simp [intOf]; omega
          · skip
            go_wp2
            go_roundw
            clear xr0 xrz0 xr1 xrz1 xr2 xrz2 xx0 xxz0 xx1 xxz1 xx2 xxz2
            case rel => exact ⟨j + 1, by omega, by go_num, by rw [hg.out]; rfl, by rw [hf.out, hfj]; first | rfl | (rw [hrb]; rfl), xr, hB⟩
            case measure => simp [intOf]; omega
        · obtain ⟨hg, hf⟩ := HS.out j hst
          have n1 : (stateF s ((j : Int) + 1) != 2) = true := bne_iff_ne.2 hst
          clear hst
          go_wp2
          go_roundw
          clear xr0 xrz0 xr1 xrz1 xr2 xrz2
          case rel => exact ⟨j + 1, by omega, by go_num, by rw [hg], by rw [hf], xr, hB⟩
          case measure => simp [intOf]; omega
      · obtain rfl : j = n := by omega
        have i1 : ¬ ((j + 1 : Nat) : Int) ≤ (j : Int) := by omega
        obtain ⟨hf, hE⟩ := HE.out
        rw [HGN.out, hf]
        rw [HGN.out] at hgle
        clear hf HE HGN HS HT TR TS
        have xr0 := xr.cell 0 rfl
        have xrz0 := xr.frozen 0
        have xr1 := xr.cell 1 rfl
        have xrz1 := xr.frozen 1
        have xr2 := xr.cell 2 rfl
        have xrz2 := xr.frozen 2
        generalize goodN s = g at *
        by_cases hg0 : 0 < g
        · obtain rfl := hE.2 hg0
          have m1 : (g : Int) > 0 := by omega
          have m2 : decide (0 < g) = true := decide_eq_true hg0
          rw [m2]
          clear m2 hE
          go_wp2_with fail
          refine (TL.out _).mono ?_
          rintro e w' ⟨rfl, hw⟩
          rw [hw]
          clear hw w'
          go_wp2_with fail
          refine (TGd.out _).mono ?_
          rintro e V3 ⟨rfl, hk⟩
          clear xr0 xrz0 xr1 xrz1 xr2 xrz2
          replace hB := below_seq hB hk
          replace xr := xr.seq hk
          clear hk
          have xr0 := xr.cell 0 rfl
          have xrz0 := xr.frozen 0
          have xr1 := xr.cell 1 rfl
          have xrz1 := xr.frozen 1
          have xr2 := xr.cell 2 rfl
          have xrz2 := xr.frozen 2
          go_wp2
          go_ret
          exact ⟨rfl, hB⟩
        · have m0 : (E == 0) = false := beq_eq_false_iff_ne.2 (fun h => hg0 (hE.1 h))
          have m1 : ¬ (g : Int) > 0 := by omega
          have m2 : decide (0 < g) = false := decide_eq_false hg0
          rw [m2]
          clear hE m2
          go_wp2_with fail
          refine (TL.out _).mono ?_
          rintro e w' ⟨rfl, hw⟩
          rw [hw]
          clear hw w'
          go_wp2_with fail
          refine (TGd.out _).mono ?_
          rintro e V3 ⟨rfl, hk⟩
          clear xr0 xrz0 xr1 xrz1 xr2 xrz2
          replace hB := below_seq hB hk
          replace xr := xr.seq hk
          clear hk
          have xr0 := xr.cell 0 rfl
          have xrz0 := xr.frozen 0
          have xr1 := xr.cell 1 rfl
          have xrz1 := xr.frozen 1
          have xr2 := xr.cell 2 rfl
          have xrz2 := xr.frozen 2
          go_wp2
          go_ret
          exact ⟨rfl, hB⟩

theorem own : ownKnob Try.prog.godebug = none := by kernel_rfl

set_option maxRecDepth 100000 in
theorem lifted (os : Os) (started : os.Started) (H : Type) (enc : TypeId × Value → H) :
    ReturnsInHanded {} Try.checked os 8 .any (Rows.scanLastSpec.pre6 enc Try.prog Try.f8 Rows.scanLastRow.domain false) (Rows.scanLastSpec.post enc Try.prog Try.f8 false true false false) := by
  refine returnsInHanded_of_change (C := Try.checked) own started (by kernel_rfl) Try.func8
    (ChangeSpec.witness6 (enc := enc) (C := Try.checked) false ⟨#[], #[.string ⟨#[]⟩], []⟩ 8 (by kernel_rfl) (by kernel_rfl) (by kernel_rfl) (by kernel_rfl)) ?_
  intro W base args ds gs before hval hW _ _
  have hW' := hW
  obtain ⟨p, q, hA0, hV, rfl, hfz, hnd⟩ := hW
  have hA : DataW.TrodAll enc Try.prog W 0 (fun _ => true) true Try.f8.params.toList args.toList ds p := hA0
  rw [Try.params8] at hA hval
  obtain ⟨v0, vs0, d0, ds0, p0, q0, hargs, rfl, rfl, h0, r0⟩ := trodAll_cons hA
  obtain ⟨rfl, rfl, rfl⟩ := trodAll_nil r0
  obtain rfl : args = #[v0] := by cases args; simp_all
  obtain ⟨rfl, rfl⟩ := trodVars_none hV
  obtain ⟨s0, rfl, rfl, rfl, hs0⟩ := open_string Try.underlying9 (hval 0 9 v0 rfl rfl) h0
  clear hA0
  simp only [List.append_nil] at hW'
  refine (walk s0 W hs0).mono fun e W' ⟨he, hB⟩ => ?_
  subst he
  exact ⟨_, rfl, ⟨_, _, _, [], _, [], hW', trodAll_cons_mk (shut_bool Try.underlying4 _) trodAll_mk0, (trodAll_cons_mk (shut_string Try.underlying9 hs0) trodAll_mk0), rfl, hB.frame _, fun h => by cases h⟩⟩

theorem holds : Rows.ScanLastSaid :=
  OpenClaim.holds_of_wide 8 Try.f8 rfl rfl rfl rfl rfl rfl rfl ⟨rfl, rfl, rfl, rfl, rfl⟩ rfl rfl rfl rfl rfl (by kernel_rfl) Try.func8 (by kernel_rfl)
    (of_decide_eq_true (by kernel_rfl)) (by unfold Func.isWrapper; first | (rw [if_pos (by decide +kernel)]; kernel_rfl) | (rw [if_neg (by decide +kernel)]; exact ⟨rfl, rfl⟩))
    (fun os started H enc _ => lifted os started H enc)
end Go.Proofs.Ytoemjfjmpmngead.ScanLast

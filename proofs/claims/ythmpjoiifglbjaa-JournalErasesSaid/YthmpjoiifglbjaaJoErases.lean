/- Without any cut a new flash of n slots is erased once for each n states that are written, and each of them is acknowledged, till both banks are worn (JournalErases); no condition. -/
import Derived.Test.YthmpjoiifglbjaaJourLaw
import Derived.Test.YthmpjoiifglbjaaJourOpen
import Derived.Deep.RegionHeld3
import Derived.WalkLawsBesides
import Derived.WalkSpells
import Derived.IntWalk
import Derived.Lib.Hide
import Derived.Test.YthmpjoiifglbjaaBox
import Derived.Test.YthmpjoiifglbjaaU64s
import Derived.Test.YthmpjoiifglbjaaFlashEq
import Derived.Test.YthmpjoiifglbjaaDeepEq
import Derived.ProofKit
import Derived.OpenShut
import Derived.ChangeMaps5
import Derived.Test.YthmpjoiifglbjaaInts
namespace Go.Proofs.Ythmpjoiifglbjaa.JournalErases
open Go.ChangeShapes Go.WideShapes Go.ChangeAt Go.RowKit Go.ChangeMaps
set_option linter.unusedVariables false
set_option linter.unusedSimpArgs false
attribute [local go_sem] eqS2 eqI2 eqS2t eqI2t eqS2u eqI2u

set_option maxRecDepth 100000 in
set_option maxHeartbeats 16000000 in
theorem walk (n : UInt8) (m : UInt8) (l : List Nat) (lA : Option Addr) (lc : Nat) (W : World) (hl : RowsAt 1 u64V W lA l) (hlo : ∀ o ∈ l, o < 18446744073709551616) (hl1 : l.length ≤ lc) (hl2 : lc ≤ maxLen) :
    Calls Try.prog 5 #[.int .u8 (n.toNat : Int), .int .u8 (m.toNat : Int), .slice lA l.length lc] W fun e W' => e = .returned (.bool true) ∧ Below W.heap.size W W' := by
  obtain ⟨K, hK⟩ : ∃ K : Nat, K = 1 + n.toNat % 12 := ⟨_, rfl⟩
  have hK12 : 1 ≤ K ∧ K ≤ 12 := by omega
  obtain ⟨M, hM⟩ : ∃ M : Nat, M = m.toNat % 8 := ⟨_, rfl⟩
  have hM8 : M < 8 := by omega
  have k0 : wrap64 (n.toNat : Int) = (n.toNat : Int) := w64_u8 n
  have km : wrap64 (m.toNat : Int) = (m.toNat : Int) := w64_u8 m
  by_cases h60 : 60 < l.length
  · have m1 : (l.length : Int) > 60 := by omega
    clear hK hM hK12 hM8 h60
    have hB : Below W.heap.size W W := Below.refl _ _
    go_enter Try.func5, Try.ntmps5
    go_wp2_with fail
    refine (shown12 _).mono ?_
    rintro e V1 ⟨rfl, hk⟩
    replace hB := below_seq hB hk
    clear hk
    go_wp2
    go_ret
    exact ⟨rfl, hB⟩
  · have m1 : ¬ (l.length : Int) > 60 := by omega
    have kw : (K : Int) = (1 + (n.toNat : Int) % 12) := by omega
    have mw : (M : Int) = ((m.toNat : Int) % 8) := by omega
    have hF := newF_fit ((24 * K + 24 : Nat) : Int) (M : Int) (by omega)
    have TZ := Lib.hid (fun (V : World) => (show Calls Try.prog 9 #[.int .i64 (1 + (n.toNat : Int) % 12)] V fun e W' => e = .returned (.int .i64 ((24 * K + 24 : Nat) : Int)) ∧ W' = V from by have h := ref05Size (K : Int) V; rw [show sizeF (K : Int) = ((24 * K + 24 : Nat) : Int) from by unfold sizeF; rw [if_pos (by omega)]; omega] at h; rw [kw] at h; exact h))
    have TN := Lib.hid (fun (V : World) => (show Calls Try.prog 8 #[.int .i64 ((24 * K + 24 : Nat) : Int), .int .i64 ((m.toNat : Int) % 8)] V fun e W' => e = .returned (.agg #[.string (newF ((24 * K + 24 : Nat) : Int) (M : Int)).b0, .string (newF ((24 * K + 24 : Nat) : Int) (M : Int)).b1, .int .i64 (newF ((24 * K + 24 : Nat) : Int) (M : Int)).e0, .int .i64 (newF ((24 * K + 24 : Nat) : Int) (M : Int)).e1, .int .i64 (newF ((24 * K + 24 : Nat) : Int) (M : Int)).lim]) ∧ Below V.heap.size V W' from by have h := flNew ((24 * K + 24 : Nat) : Int) (M : Int) V; rw [show (Value.int .i64 ((m.toNat : Int) % 8)) = .int .i64 (M : Int) from by rw [mw]]; exact h))
    have hS := er_start (n := K) (most := M)
    obtain ⟨F, hFF⟩ : ∃ F, newF ((24 * K + 24 : Nat) : Int) (M : Int) = F := ⟨_, rfl⟩
    rw [hFF] at hF TN hS
    obtain ⟨Z, hZ⟩ : ∃ Z : Int, ((24 * K + 24 : Nat) : Int) = Z := ⟨_, rfl⟩
    rw [hZ] at TZ TN
    clear hZ hFF
    have hMK : 2 * M * K ≤ 168 := mk168 hM8 hK12.2
    obtain ⟨N2, hN⟩ : ∃ N2 : Nat, 2 * M * K = N2 := ⟨_, rfl⟩
    rw [hN] at hMK
    have hNh := Lib.hid hN
    obtain ⟨w2, w3⟩ := er_nums hM8 hK12.2 mw kw hN
    have k2 : ¬ (1 + (n.toNat : Int) % 12) = 0 := by omega
    have hKs := Lib.hid kw
    have hlh := Lib.hid hl
    clear hl mw kw hK hM hN
    replace hK12 := Lib.hid hK12
    replace hM8 := Lib.hid hM8
    replace h60 := Lib.hid h60
    replace hMK := Lib.hid hMK
    have HL := Lib.hid (fun k o hk => hlh.out.hop k o hk)
    have hB : Below W.heap.size W W := Below.refl _ _
    go_enter Try.func5, Try.ntmps5
    go_wp2_with fail
    refine (shown12 _).mono ?_
    rintro e V1 ⟨rfl, hk⟩
    replace hB := below_seq hB hk
    clear hk
    go_wp2_with fail
    refine (TZ.out _).mono ?_
    rintro e w' ⟨rfl, hw⟩
    rw [hw]
    clear hw w'
    go_wp2_with fail
    refine (TN.out _).mono ?_
    rintro e V2 ⟨rfl, hk⟩
    replace hB := below_seq hB hk
    clear hk
    have xx := Box.new 33 V2 [.string F.b0, .string F.b1, .int .i64 F.e0, .int .i64 F.e1, .int .i64 F.lim, .int .i64 0, .int .u64 0, .bool false, .int .u64 0]
    have le_xx : W.heap.size ≤ V2.heap.size := hB.size
    replace hB := hB.alloc hB.size (.cells #[.string F.b0, .string F.b1, .int .i64 F.e0, .int .i64 F.e1, .int .i64 F.lim, .int .i64 0, .int .u64 0, .bool false, .int .u64 0] 33)
    have xx0 := xx.cell 0 rfl
    have xxz0 := xx.frozen 0
    have xx1 := xx.cell 1 rfl
    have xxz1 := xx.frozen 1
    have xx2 := xx.cell 2 rfl
    have xxz2 := xx.frozen 2
    have xx3 := xx.cell 3 rfl
    have xxz3 := xx.frozen 3
    have xx4 := xx.cell 4 rfl
    have xxz4 := xx.frozen 4
    have xx5 := xx.cell 5 rfl
    have xxz5 := xx.frozen 5
    have xx6 := xx.cell 6 rfl
    have xxz6 := xx.frozen 6
    have xx7 := xx.cell 7 rfl
    have xxz7 := xx.frozen 7
    have xx8 := xx.cell 8 rfl
    have xxz8 := xx.frozen 8
    go_wp2
    clear xx0 xxz0 xx1 xxz1 xx2 xxz2 xx3 xxz3 xx4 xxz4 xx5 xxz5 xx6 xxz6 xx7 xxz7 xx8 xxz8
    go_loopw [10] (fun i w => ∃ (j : Nat) (x : Lg), j ≤ l.length ∧ i = .int .i64 j ∧ j ≤ N2 ∧ EJ K M j x ∧ x.f.fit ∧ (0 ≤ x.acked ∧ x.acked ≤ 1000) ∧ Box 33 w (V2.heap.size) [.string x.f.b0, .string x.f.b1, .int .i64 x.f.e0, .int .i64 x.f.e1, .int .i64 x.f.lim, .int .i64 x.acked, .int .u64 (x.last : Int), .bool x.flying, .int .u64 (x.flight : Int)] ∧ Below W.heap.size W w) (fun i _ => l.length - (intOf i).toNat)
    case atStart => exact ⟨0, startJ F, Nat.zero_le _, rfl, Nat.zero_le _, hS, hF, ⟨Int.le_refl _, by show (0 : Int) ≤ 1000; decide⟩, xx, hB⟩
    case round =>
      clear xx hB hS hF
      obtain ⟨j, x, hj, rfl, hjN, HX, hxf, hxa, xx, hB⟩ := hrel
      by_cases hlt : j < l.length
      · obtain ⟨d, hjs⟩ : ∃ d, l[j]? = some d := ⟨_, List.getElem?_eq_getElem hlt⟩
        obtain ⟨g, off, rfl, HC0⟩ := HL.out j d hjs
        have HC := Lib.hid (show ∀ V : World, Below W.heap.size W V → V.cell? ⟨g, off + j, none⟩ = some (.int .u64 (d : Int)) from fun V h => by have k := HC0 V h 0 (by decide); rw [Nat.mul_one, Nat.add_zero] at k; exact k)
        clear HC0
        have hd := hlo d (List.mem_of_getElem? hjs)
        have hs : Stp.ok ⟨d, -1, ⟨#[]⟩⟩ := ⟨hd, by show _ ≤ (-1 : Int) ∧ (-1 : Int) ≤ _; decide, Nat.zero_le _⟩
        have h60 := h60.out
        have hMK := hMK.out
        obtain ⟨s1, s2⟩ := er_step hK12.out (by have := hM8.out; omega) HX (by omega) hd
        rw [hNh.out] at s1 s2
        have hyf := playJ_fit hxf ⟨d, -1, ⟨#[]⟩⟩
        obtain ⟨yf, ya, yl, yb, yt, hy⟩ : ∃ yf ya yl yb yt, playJ x ⟨d, -1, ⟨#[]⟩⟩ = ⟨yf, ya, yl, yb, yt⟩ := ⟨_, _, _, _, _, rfl⟩
        rw [hy] at s1 s2 hyf
        have TP := Lib.hid (fun (V : World) => (show Calls Try.prog 12 #[.agg #[.string x.f.b0, .string x.f.b1, .int .i64 x.f.e0, .int .i64 x.f.e1, .int .i64 x.f.lim, .int .i64 x.acked, .int .u64 (x.last : Int), .bool x.flying, .int .u64 (x.flight : Int)], .agg #[.int .u64 (d : Int), .int .i64 (-1), .string ⟨#[]⟩]] V fun e W' => e = .returned (.agg #[.string yf.b0, .string yf.b1, .int .i64 yf.e0, .int .i64 yf.e1, .int .i64 yf.lim, .int .i64 ya, .int .u64 (yl : Int), .bool yb, .int .u64 (yt : Int)]) ∧ Below V.heap.size V W' from by have h := own12Play x ⟨d, -1, ⟨#[]⟩⟩ V hxf (by omega) hs; rw [hy] at h; exact h))
        have j0 : (0 : Int) ≤ (j : Int) := by omega
        have j1 : (j : Int) < (l.length : Int) := by omega
        have j2 : IntKind.i64.wrap ((j : Int) + 1) = (j : Int) + 1 := IntWalk.i64_in _ (by omega)
        clear hs hjs HL
        by_cases hfull : N2 ≤ j
        · obtain ⟨t1, t2⟩ := s1 hfull hjN
          have m3 : (j : Int) ≥ (N2 : Int) := by omega
          obtain ⟨xf, xa, xl, xb, xt⟩ := x
          simp only [Lg.mk.injEq] at t1
          obtain ⟨rfl, rfl, rfl, rfl, rfl⟩ := t1
          dsimp only at t2 TP xx
          subst t2
          clear s1 s2 HX hxf hxa hy hyf hfull hjN
          go_wp2_with fail
          replace hB := hB.drew
          replace xx := xx.drew
          refine wp_region_held_drew (S := fun w' => w'.cell? ⟨V2.heap.size, 0, none⟩ = some (.string yf.b0) ∧ w'.cell? ⟨V2.heap.size, 1, none⟩ = some (.string yf.b1) ∧ w'.cell? ⟨V2.heap.size, 2, none⟩ = some (.int .i64 yf.e0) ∧ w'.cell? ⟨V2.heap.size, 3, none⟩ = some (.int .i64 yf.e1) ∧ w'.cell? ⟨V2.heap.size, 4, none⟩ = some (.int .i64 yf.lim) ∧ w'.cell? ⟨V2.heap.size, 5, none⟩ = some (.int .i64 (N2 : Int)) ∧ w'.cell? ⟨V2.heap.size, 6, none⟩ = some (.int .u64 (yl : Int)) ∧ w'.cell? ⟨V2.heap.size, 7, none⟩ = some (.bool yb) ∧ w'.cell? ⟨V2.heap.size, 8, none⟩ = some (.int .u64 (yt : Int)) ∧ w'.cell? ⟨g, off + j, none⟩ = some (.int .u64 (d : Int))) (by kernel_rfl) ?_ (fun hHeld => ?_)
          · exact ⟨xx.cell 0 rfl, xx.cell 1 rfl, xx.cell 2 rfl, xx.cell 3 rfl, xx.cell 4 rfl, xx.cell 5 rfl, xx.cell 6 rfl, xx.cell 7 rfl, xx.cell 8 rfl, HC.out _ hB⟩
          generalize wr.drew = V3 at *
          refine wpAnyH_take (i := 0) (v := ?_) rfl (by kernel_rfl) (by kernel_rfl) (by kernel_rfl) (fun _ _ _ h => h) (Or.inl ⟨by rfl, ?_⟩) (by assumption) ?_
          rotate_left
          · intro w hSw; (try dsimp only at hSw); go_simp; try with_reducible rfl
          try simp only [Act.put, List.getElem_toArray, List.getElem_cons_zero, List.getElem_cons_succ, List.setIfInBounds_toArray, List.set_cons_zero, List.set_cons_succ]
          refine wpAnyH_take (i := 1) (v := ?_) rfl (by kernel_rfl) (by kernel_rfl) (by kernel_rfl) (fun _ _ _ h => h) (Or.inl ⟨by rfl, ?_⟩) (by assumption) ?_
          rotate_left
          · intro w hSw; (try dsimp only at hSw); go_simp; try with_reducible rfl
          try simp only [Act.put, List.getElem_toArray, List.getElem_cons_zero, List.getElem_cons_succ, List.setIfInBounds_toArray, List.set_cons_zero, List.set_cons_succ]
          refine wpAnyH_take (i := 2) (v := ?_) rfl (by kernel_rfl) (by kernel_rfl) (by kernel_rfl) (fun _ _ _ h => h) (Or.inl ⟨by rfl, ?_⟩) (by assumption) ?_
          rotate_left
          · intro w hSw; (try dsimp only at hSw); go_simp; try with_reducible rfl
          try simp only [Act.put, List.getElem_toArray, List.getElem_cons_zero, List.getElem_cons_succ, List.setIfInBounds_toArray, List.set_cons_zero, List.set_cons_succ]
          refine wpAnyH_take (i := 3) (v := ?_) rfl (by kernel_rfl) (by kernel_rfl) (by kernel_rfl) (fun _ _ _ h => h) (Or.inl ⟨by rfl, ?_⟩) (by assumption) ?_
          rotate_left
          · intro w hSw; (try dsimp only at hSw); go_simp; try with_reducible rfl
          try simp only [Act.put, List.getElem_toArray, List.getElem_cons_zero, List.getElem_cons_succ, List.setIfInBounds_toArray, List.set_cons_zero, List.set_cons_succ]
          refine wpAnyH_take (i := 4) (v := ?_) rfl (by kernel_rfl) (by kernel_rfl) (by kernel_rfl) (fun _ _ _ h => h) (Or.inl ⟨by rfl, ?_⟩) (by assumption) ?_
          rotate_left
          · intro w hSw; (try dsimp only at hSw); go_simp; try with_reducible rfl
          try simp only [Act.put, List.getElem_toArray, List.getElem_cons_zero, List.getElem_cons_succ, List.setIfInBounds_toArray, List.set_cons_zero, List.set_cons_succ]
          refine wpAnyH_ready (rs := [5, 7]) (by kernel_rfl) (by simp) ?_
          refine AllReadyH.cons rfl (fun K hK => ?_) (AllReadyH.cons rfl (fun K hK => ?_) (AllReadyH.nil))
          · have xx0 := xx.cell 0 rfl
            have xxz0 := xx.frozen 0
            have xx1 := xx.cell 1 rfl
            have xxz1 := xx.frozen 1
            have xx2 := xx.cell 2 rfl
            have xxz2 := xx.frozen 2
            have xx3 := xx.cell 3 rfl
            have xxz3 := xx.frozen 3
            have xx4 := xx.cell 4 rfl
            have xxz4 := xx.frozen 4
            have xx5 := xx.cell 5 rfl
            have xxz5 := xx.frozen 5
            have xx6 := xx.cell 6 rfl
            have xxz6 := xx.frozen 6
            have xx7 := xx.cell 7 rfl
            have xxz7 := xx.frozen 7
            have xx8 := xx.cell 8 rfl
            have xxz8 := xx.frozen 8
            go_simp
            try go_wp2_with fail
            clear xx0 xxz0 xx1 xxz1 xx2 xxz2 xx3 xxz3 xx4 xxz4 xx5 xxz5 xx6 xxz6 xx7 xxz7 xx8 xxz8
            clear hHeld
            refine hK.out _ _ ?_ (fun hHeld => ?_)
            · exact ⟨xx.cell 0 rfl, xx.cell 1 rfl, xx.cell 2 rfl, xx.cell 3 rfl, xx.cell 4 rfl, xx.cell 5 rfl, xx.cell 6 rfl, xx.cell 7 rfl, xx.cell 8 rfl, HC.out _ hB⟩
            clear hK K
            try simp only [Act.put, List.getElem_toArray, List.getElem_cons_zero, List.getElem_cons_succ, List.setIfInBounds_toArray, List.set_cons_zero, List.set_cons_succ]
            refine wpAnyH_ready (rs := [6, 7]) (by kernel_rfl) (by simp) ?_
            refine AllReadyH.cons rfl (fun K hK => ?_) (AllReadyH.cons rfl (fun K hK => ?_) (AllReadyH.nil))
            · have xx0 := xx.cell 0 rfl
              have xxz0 := xx.frozen 0
              have xx1 := xx.cell 1 rfl
              have xxz1 := xx.frozen 1
              have xx2 := xx.cell 2 rfl
              have xxz2 := xx.frozen 2
              have xx3 := xx.cell 3 rfl
              have xxz3 := xx.frozen 3
              have xx4 := xx.cell 4 rfl
              have xxz4 := xx.frozen 4
              have xx5 := xx.cell 5 rfl
              have xxz5 := xx.frozen 5
              have xx6 := xx.cell 6 rfl
              have xxz6 := xx.frozen 6
              have xx7 := xx.cell 7 rfl
              have xxz7 := xx.frozen 7
              have xx8 := xx.cell 8 rfl
              have xxz8 := xx.frozen 8
              go_simp
              refine (TP.out _).mono ?_
              rintro e V4 ⟨rfl, hk⟩
              clear xx0 xxz0 xx1 xxz1 xx2 xxz2 xx3 xxz3 xx4 xxz4 xx5 xxz5 xx6 xxz6 xx7 xxz7 xx8 xxz8
              replace hB := below_seq hB hk
              replace xx := xx.seq hk
              clear hk
              have xx0 := xx.cell 0 rfl
              have xxz0 := xx.frozen 0
              have xx1 := xx.cell 1 rfl
              have xxz1 := xx.frozen 1
              have xx2 := xx.cell 2 rfl
              have xxz2 := xx.frozen 2
              have xx3 := xx.cell 3 rfl
              have xxz3 := xx.frozen 3
              have xx4 := xx.cell 4 rfl
              have xxz4 := xx.frozen 4
              have xx5 := xx.cell 5 rfl
              have xxz5 := xx.frozen 5
              have xx6 := xx.cell 6 rfl
              have xxz6 := xx.frozen 6
              have xx7 := xx.cell 7 rfl
              have xxz7 := xx.frozen 7
              have xx8 := xx.cell 8 rfl
              have xxz8 := xx.frozen 8
              try go_wp2_with fail
              clear xx0 xxz0 xx1 xxz1 xx2 xxz2 xx3 xxz3 xx4 xxz4 xx5 xxz5 xx6 xxz6 xx7 xxz7 xx8 xxz8
              clear hHeld
              refine hK.out _ _ ?_ (fun hHeld => ?_)
              · exact ⟨xx.cell 0 rfl, xx.cell 1 rfl, xx.cell 2 rfl, xx.cell 3 rfl, xx.cell 4 rfl, xx.cell 5 rfl, xx.cell 6 rfl, xx.cell 7 rfl, xx.cell 8 rfl, HC.out _ hB⟩
              clear hK K
              try simp only [Act.put, List.getElem_toArray, List.getElem_cons_zero, List.getElem_cons_succ, List.setIfInBounds_toArray, List.set_cons_zero, List.set_cons_succ]
              refine wpAnyH_ready (rs := [7]) (by kernel_rfl) (by simp) ?_
              refine AllReadyH.cons rfl (fun K hK => ?_) (AllReadyH.nil)
              have xx0 := xx.cell 0 rfl
              have xxz0 := xx.frozen 0
              have xx1 := xx.cell 1 rfl
              have xxz1 := xx.frozen 1
              have xx2 := xx.cell 2 rfl
              have xxz2 := xx.frozen 2
              have xx3 := xx.cell 3 rfl
              have xxz3 := xx.frozen 3
              have xx4 := xx.cell 4 rfl
              have xxz4 := xx.frozen 4
              have xx5 := xx.cell 5 rfl
              have xxz5 := xx.frozen 5
              have xx6 := xx.cell 6 rfl
              have xxz6 := xx.frozen 6
              have xx7 := xx.cell 7 rfl
              have xxz7 := xx.frozen 7
              have xx8 := xx.cell 8 rfl
              have xxz8 := xx.frozen 8
              go_simp
              try go_wp2_with fail
              clear xx0 xxz0 xx1 xxz1 xx2 xxz2 xx3 xxz3 xx4 xxz4 xx5 xxz5 xx6 xxz6 xx7 xxz7 xx8 xxz8
              have xy := Box.new 33 V4 [.string ⟨#[]⟩, .string ⟨#[]⟩, .int .i64 0, .int .i64 0, .int .i64 0, .int .i64 0, .int .u64 0, .bool false, .int .u64 0]
              have ne_xy_xx : V4.heap.size ≠ V2.heap.size := Nat.ne_of_gt xx.lt
              have le_xy : W.heap.size ≤ V4.heap.size := hB.size
              replace xx := xx.alloc (.cells #[.string ⟨#[]⟩, .string ⟨#[]⟩, .int .i64 0, .int .i64 0, .int .i64 0, .int .i64 0, .int .u64 0, .bool false, .int .u64 0] 33)
              replace hB := hB.alloc hB.size (.cells #[.string ⟨#[]⟩, .string ⟨#[]⟩, .int .i64 0, .int .i64 0, .int .i64 0, .int .i64 0, .int .u64 0, .bool false, .int .u64 0] 33)
              have xx0 := xx.cell 0 rfl
              have xxz0 := xx.frozen 0
              have xx1 := xx.cell 1 rfl
              have xxz1 := xx.frozen 1
              have xx2 := xx.cell 2 rfl
              have xxz2 := xx.frozen 2
              have xx3 := xx.cell 3 rfl
              have xxz3 := xx.frozen 3
              have xx4 := xx.cell 4 rfl
              have xxz4 := xx.frozen 4
              have xx5 := xx.cell 5 rfl
              have xxz5 := xx.frozen 5
              have xx6 := xx.cell 6 rfl
              have xxz6 := xx.frozen 6
              have xx7 := xx.cell 7 rfl
              have xxz7 := xx.frozen 7
              have xx8 := xx.cell 8 rfl
              have xxz8 := xx.frozen 8
              have xy0 := xy.cell 0 rfl
              have xyz0 := xy.frozen 0
              have xy1 := xy.cell 1 rfl
              have xyz1 := xy.frozen 1
              have xy2 := xy.cell 2 rfl
              have xyz2 := xy.frozen 2
              have xy3 := xy.cell 3 rfl
              have xyz3 := xy.frozen 3
              have xy4 := xy.cell 4 rfl
              have xyz4 := xy.frozen 4
              have xy5 := xy.cell 5 rfl
              have xyz5 := xy.frozen 5
              have xy6 := xy.cell 6 rfl
              have xyz6 := xy.frozen 6
              have xy7 := xy.cell 7 rfl
              have xyz7 := xy.frozen 7
              have xy8 := xy.cell 8 rfl
              have xyz8 := xy.frozen 8
              generalize (V4.alloc (.cells #[.string ⟨#[]⟩, .string ⟨#[]⟩, .int .i64 0, .int .i64 0, .int .i64 0, .int .i64 0, .int .u64 0, .bool false, .int .u64 0] 33)) = V5 at *
              generalize V4.heap.size = g_xy at *
              clear xx0 xxz0 xx1 xxz1 xx2 xxz2 xx3 xxz3 xx4 xxz4 xx5 xxz5 xx6 xxz6 xx7 xxz7 xx8 xxz8 xy0 xyz0 xy1 xyz1 xy2 xyz2 xy3 xyz3 xy4 xyz4 xy5 xyz5 xy6 xyz6 xy7 xyz7 xy8 xyz8
              clear hHeld
              refine hK.out _ _ ?_ (fun hHeld => ?_)
              · exact ⟨xx.cell 0 rfl, xx.cell 1 rfl, xx.cell 2 rfl, xx.cell 3 rfl, xx.cell 4 rfl, xx.cell 5 rfl, xx.cell 6 rfl, xx.cell 7 rfl, xx.cell 8 rfl, HC.out _ hB⟩
              clear hK K
              try simp only [Act.put, List.getElem_toArray, List.getElem_cons_zero, List.getElem_cons_succ, List.setIfInBounds_toArray, List.set_cons_zero, List.set_cons_succ]
              refine wpAnyH_ready (rs := [8]) (by kernel_rfl) (by simp) ?_
              refine AllReadyH.cons rfl (fun K hK => ?_) (AllReadyH.nil)
              have xx0 := xx.cell 0 rfl
              have xxz0 := xx.frozen 0
              have xx1 := xx.cell 1 rfl
              have xxz1 := xx.frozen 1
              have xx2 := xx.cell 2 rfl
              have xxz2 := xx.frozen 2
              have xx3 := xx.cell 3 rfl
              have xxz3 := xx.frozen 3
              have xx4 := xx.cell 4 rfl
              have xxz4 := xx.frozen 4
              have xx5 := xx.cell 5 rfl
              have xxz5 := xx.frozen 5
              have xx6 := xx.cell 6 rfl
              have xxz6 := xx.frozen 6
              have xx7 := xx.cell 7 rfl
              have xxz7 := xx.frozen 7
              have xx8 := xx.cell 8 rfl
              have xxz8 := xx.frozen 8
              have xy0 := xy.cell 0 rfl
              have xyz0 := xy.frozen 0
              have xy1 := xy.cell 1 rfl
              have xyz1 := xy.frozen 1
              have xy2 := xy.cell 2 rfl
              have xyz2 := xy.frozen 2
              have xy3 := xy.cell 3 rfl
              have xyz3 := xy.frozen 3
              have xy4 := xy.cell 4 rfl
              have xyz4 := xy.frozen 4
              have xy5 := xy.cell 5 rfl
              have xyz5 := xy.frozen 5
              have xy6 := xy.cell 6 rfl
              have xyz6 := xy.frozen 6
              have xy7 := xy.cell 7 rfl
              have xyz7 := xy.frozen 7
              have xy8 := xy.cell 8 rfl
              have xyz8 := xy.frozen 8
              go_simp
              try go_wp2_with fail
              clear xx0 xxz0 xx1 xxz1 xx2 xxz2 xx3 xxz3 xx4 xxz4 xx5 xxz5 xx6 xxz6 xx7 xxz7 xx8 xxz8 xy0 xyz0 xy1 xyz1 xy2 xyz2 xy3 xyz3 xy4 xyz4 xy5 xyz5 xy6 xyz6 xy7 xyz7 xy8 xyz8
              replace xx : Box 33 (((((((((V5.setCell ⟨g_xy, 0, none⟩ (.string yf.b0)).setCell ⟨g_xy, 1, none⟩ (.string yf.b1)).setCell ⟨g_xy, 2, none⟩ (.int .i64 yf.e0)).setCell ⟨g_xy, 3, none⟩ (.int .i64 yf.e1)).setCell ⟨g_xy, 4, none⟩ (.int .i64 yf.lim)).setCell ⟨g_xy, 5, none⟩ (.int .i64 (N2 : Int))).setCell ⟨g_xy, 6, none⟩ (.int .u64 (yl : Int))).setCell ⟨g_xy, 7, none⟩ (.bool yb)).setCell ⟨g_xy, 8, none⟩ (.int .u64 (yt : Int))) (V2.heap.size) [.string yf.b0, .string yf.b1, .int .i64 yf.e0, .int .i64 yf.e1, .int .i64 yf.lim, .int .i64 (N2 : Int), .int .u64 (yl : Int), .bool yb, .int .u64 (yt : Int)] := (((((((((xx.other ne_xy_xx 0 (.string yf.b0)).other ne_xy_xx 1 (.string yf.b1)).other ne_xy_xx 2 (.int .i64 yf.e0)).other ne_xy_xx 3 (.int .i64 yf.e1)).other ne_xy_xx 4 (.int .i64 yf.lim)).other ne_xy_xx 5 (.int .i64 (N2 : Int))).other ne_xy_xx 6 (.int .u64 (yl : Int))).other ne_xy_xx 7 (.bool yb)).other ne_xy_xx 8 (.int .u64 (yt : Int)))
              replace xy : Box 33 (((((((((V5.setCell ⟨g_xy, 0, none⟩ (.string yf.b0)).setCell ⟨g_xy, 1, none⟩ (.string yf.b1)).setCell ⟨g_xy, 2, none⟩ (.int .i64 yf.e0)).setCell ⟨g_xy, 3, none⟩ (.int .i64 yf.e1)).setCell ⟨g_xy, 4, none⟩ (.int .i64 yf.lim)).setCell ⟨g_xy, 5, none⟩ (.int .i64 (N2 : Int))).setCell ⟨g_xy, 6, none⟩ (.int .u64 (yl : Int))).setCell ⟨g_xy, 7, none⟩ (.bool yb)).setCell ⟨g_xy, 8, none⟩ (.int .u64 (yt : Int))) (g_xy) [.string yf.b0, .string yf.b1, .int .i64 yf.e0, .int .i64 yf.e1, .int .i64 yf.lim, .int .i64 (N2 : Int), .int .u64 (yl : Int), .bool yb, .int .u64 (yt : Int)] := (((((((((xy.set 0 (.string yf.b0)).set 1 (.string yf.b1)).set 2 (.int .i64 yf.e0)).set 3 (.int .i64 yf.e1)).set 4 (.int .i64 yf.lim)).set 5 (.int .i64 (N2 : Int))).set 6 (.int .u64 (yl : Int))).set 7 (.bool yb)).set 8 (.int .u64 (yt : Int)))
              replace hB : Below W.heap.size W (((((((((V5.setCell ⟨g_xy, 0, none⟩ (.string yf.b0)).setCell ⟨g_xy, 1, none⟩ (.string yf.b1)).setCell ⟨g_xy, 2, none⟩ (.int .i64 yf.e0)).setCell ⟨g_xy, 3, none⟩ (.int .i64 yf.e1)).setCell ⟨g_xy, 4, none⟩ (.int .i64 yf.lim)).setCell ⟨g_xy, 5, none⟩ (.int .i64 (N2 : Int))).setCell ⟨g_xy, 6, none⟩ (.int .u64 (yl : Int))).setCell ⟨g_xy, 7, none⟩ (.bool yb)).setCell ⟨g_xy, 8, none⟩ (.int .u64 (yt : Int))) := (((((((((hB.setCell le_xy _).setCell le_xy _).setCell le_xy _).setCell le_xy _).setCell le_xy _).setCell le_xy _).setCell le_xy _).setCell le_xy _).setCell le_xy _)
              generalize (((((((((V5.setCell ⟨g_xy, 0, none⟩ (.string yf.b0)).setCell ⟨g_xy, 1, none⟩ (.string yf.b1)).setCell ⟨g_xy, 2, none⟩ (.int .i64 yf.e0)).setCell ⟨g_xy, 3, none⟩ (.int .i64 yf.e1)).setCell ⟨g_xy, 4, none⟩ (.int .i64 yf.lim)).setCell ⟨g_xy, 5, none⟩ (.int .i64 (N2 : Int))).setCell ⟨g_xy, 6, none⟩ (.int .u64 (yl : Int))).setCell ⟨g_xy, 7, none⟩ (.bool yb)).setCell ⟨g_xy, 8, none⟩ (.int .u64 (yt : Int))) = V6 at *
              clear hHeld
              refine hK.out _ _ ?_ (fun hHeld => ?_)
              · exact ⟨xx.cell 0 rfl, xx.cell 1 rfl, xx.cell 2 rfl, xx.cell 3 rfl, xx.cell 4 rfl, xx.cell 5 rfl, xx.cell 6 rfl, xx.cell 7 rfl, xx.cell 8 rfl, HC.out _ hB⟩
              clear hK K
              try simp only [Act.put, List.getElem_toArray, List.getElem_cons_zero, List.getElem_cons_succ, List.setIfInBounds_toArray, List.set_cons_zero, List.set_cons_succ]
              refine wpAnyH_done (by kernel_rfl) ?_ _
              clear hHeld
              have xx0 := xx.cell 0 rfl
              have xxz0 := xx.frozen 0
              have xx1 := xx.cell 1 rfl
              have xxz1 := xx.frozen 1
              have xx2 := xx.cell 2 rfl
              have xxz2 := xx.frozen 2
              have xx3 := xx.cell 3 rfl
              have xxz3 := xx.frozen 3
              have xx4 := xx.cell 4 rfl
              have xxz4 := xx.frozen 4
              have xx5 := xx.cell 5 rfl
              have xxz5 := xx.frozen 5
              have xx6 := xx.cell 6 rfl
              have xxz6 := xx.frozen 6
              have xx7 := xx.cell 7 rfl
              have xxz7 := xx.frozen 7
              have xx8 := xx.cell 8 rfl
              have xxz8 := xx.frozen 8
              have xy0 := xy.cell 0 rfl
              have xyz0 := xy.frozen 0
              have xy1 := xy.cell 1 rfl
              have xyz1 := xy.frozen 1
              have xy2 := xy.cell 2 rfl
              have xyz2 := xy.frozen 2
              have xy3 := xy.cell 3 rfl
              have xyz3 := xy.frozen 3
              have xy4 := xy.cell 4 rfl
              have xyz4 := xy.frozen 4
              have xy5 := xy.cell 5 rfl
              have xyz5 := xy.frozen 5
              have xy6 := xy.cell 6 rfl
              have xyz6 := xy.frozen 6
              have xy7 := xy.cell 7 rfl
              have xyz7 := xy.frozen 7
              have xy8 := xy.cell 8 rfl
              have xyz8 := xy.frozen 8
              go_wp2
              go_ret
              exact ⟨rfl, hB⟩
            · have xx0 := xx.cell 0 rfl
              have xxz0 := xx.frozen 0
              have xx1 := xx.cell 1 rfl
              have xxz1 := xx.frozen 1
              have xx2 := xx.cell 2 rfl
              have xxz2 := xx.frozen 2
              have xx3 := xx.cell 3 rfl
              have xxz3 := xx.frozen 3
              have xx4 := xx.cell 4 rfl
              have xxz4 := xx.frozen 4
              have xx5 := xx.cell 5 rfl
              have xxz5 := xx.frozen 5
              have xx6 := xx.cell 6 rfl
              have xxz6 := xx.frozen 6
              have xx7 := xx.cell 7 rfl
              have xxz7 := xx.frozen 7
              have xx8 := xx.cell 8 rfl
              have xxz8 := xx.frozen 8
              go_simp
              try go_wp2_with fail
              clear xx0 xxz0 xx1 xxz1 xx2 xxz2 xx3 xxz3 xx4 xxz4 xx5 xxz5 xx6 xxz6 xx7 xxz7 xx8 xxz8
              have xy := Box.new 33 V3 [.string ⟨#[]⟩, .string ⟨#[]⟩, .int .i64 0, .int .i64 0, .int .i64 0, .int .i64 0, .int .u64 0, .bool false, .int .u64 0]
              have ne_xy_xx : V3.heap.size ≠ V2.heap.size := Nat.ne_of_gt xx.lt
              have le_xy : W.heap.size ≤ V3.heap.size := hB.size
              replace xx := xx.alloc (.cells #[.string ⟨#[]⟩, .string ⟨#[]⟩, .int .i64 0, .int .i64 0, .int .i64 0, .int .i64 0, .int .u64 0, .bool false, .int .u64 0] 33)
              replace hB := hB.alloc hB.size (.cells #[.string ⟨#[]⟩, .string ⟨#[]⟩, .int .i64 0, .int .i64 0, .int .i64 0, .int .i64 0, .int .u64 0, .bool false, .int .u64 0] 33)
              have xx0 := xx.cell 0 rfl
              have xxz0 := xx.frozen 0
              have xx1 := xx.cell 1 rfl
              have xxz1 := xx.frozen 1
              have xx2 := xx.cell 2 rfl
              have xxz2 := xx.frozen 2
              have xx3 := xx.cell 3 rfl
              have xxz3 := xx.frozen 3
              have xx4 := xx.cell 4 rfl
              have xxz4 := xx.frozen 4
              have xx5 := xx.cell 5 rfl
              have xxz5 := xx.frozen 5
              have xx6 := xx.cell 6 rfl
              have xxz6 := xx.frozen 6
              have xx7 := xx.cell 7 rfl
              have xxz7 := xx.frozen 7
              have xx8 := xx.cell 8 rfl
              have xxz8 := xx.frozen 8
              have xy0 := xy.cell 0 rfl
              have xyz0 := xy.frozen 0
              have xy1 := xy.cell 1 rfl
              have xyz1 := xy.frozen 1
              have xy2 := xy.cell 2 rfl
              have xyz2 := xy.frozen 2
              have xy3 := xy.cell 3 rfl
              have xyz3 := xy.frozen 3
              have xy4 := xy.cell 4 rfl
              have xyz4 := xy.frozen 4
              have xy5 := xy.cell 5 rfl
              have xyz5 := xy.frozen 5
              have xy6 := xy.cell 6 rfl
              have xyz6 := xy.frozen 6
              have xy7 := xy.cell 7 rfl
              have xyz7 := xy.frozen 7
              have xy8 := xy.cell 8 rfl
              have xyz8 := xy.frozen 8
              generalize (V3.alloc (.cells #[.string ⟨#[]⟩, .string ⟨#[]⟩, .int .i64 0, .int .i64 0, .int .i64 0, .int .i64 0, .int .u64 0, .bool false, .int .u64 0] 33)) = V4 at *
              generalize V3.heap.size = g_xy at *
              clear xx0 xxz0 xx1 xxz1 xx2 xxz2 xx3 xxz3 xx4 xxz4 xx5 xxz5 xx6 xxz6 xx7 xxz7 xx8 xxz8 xy0 xyz0 xy1 xyz1 xy2 xyz2 xy3 xyz3 xy4 xyz4 xy5 xyz5 xy6 xyz6 xy7 xyz7 xy8 xyz8
              clear hHeld
              refine hK.out _ _ ?_ (fun hHeld => ?_)
              · exact ⟨xx.cell 0 rfl, xx.cell 1 rfl, xx.cell 2 rfl, xx.cell 3 rfl, xx.cell 4 rfl, xx.cell 5 rfl, xx.cell 6 rfl, xx.cell 7 rfl, xx.cell 8 rfl, HC.out _ hB⟩
              clear hK K
              try simp only [Act.put, List.getElem_toArray, List.getElem_cons_zero, List.getElem_cons_succ, List.setIfInBounds_toArray, List.set_cons_zero, List.set_cons_succ]
              refine wpAnyH_ready (rs := [6]) (by kernel_rfl) (by simp) ?_
              refine AllReadyH.cons rfl (fun K hK => ?_) (AllReadyH.nil)
              have xx0 := xx.cell 0 rfl
              have xxz0 := xx.frozen 0
              have xx1 := xx.cell 1 rfl
              have xxz1 := xx.frozen 1
              have xx2 := xx.cell 2 rfl
              have xxz2 := xx.frozen 2
              have xx3 := xx.cell 3 rfl
              have xxz3 := xx.frozen 3
              have xx4 := xx.cell 4 rfl
              have xxz4 := xx.frozen 4
              have xx5 := xx.cell 5 rfl
              have xxz5 := xx.frozen 5
              have xx6 := xx.cell 6 rfl
              have xxz6 := xx.frozen 6
              have xx7 := xx.cell 7 rfl
              have xxz7 := xx.frozen 7
              have xx8 := xx.cell 8 rfl
              have xxz8 := xx.frozen 8
              have xy0 := xy.cell 0 rfl
              have xyz0 := xy.frozen 0
              have xy1 := xy.cell 1 rfl
              have xyz1 := xy.frozen 1
              have xy2 := xy.cell 2 rfl
              have xyz2 := xy.frozen 2
              have xy3 := xy.cell 3 rfl
              have xyz3 := xy.frozen 3
              have xy4 := xy.cell 4 rfl
              have xyz4 := xy.frozen 4
              have xy5 := xy.cell 5 rfl
              have xyz5 := xy.frozen 5
              have xy6 := xy.cell 6 rfl
              have xyz6 := xy.frozen 6
              have xy7 := xy.cell 7 rfl
              have xyz7 := xy.frozen 7
              have xy8 := xy.cell 8 rfl
              have xyz8 := xy.frozen 8
              go_simp
              refine (TP.out _).mono ?_
              rintro e V5 ⟨rfl, hk⟩
              clear xx0 xxz0 xx1 xxz1 xx2 xxz2 xx3 xxz3 xx4 xxz4 xx5 xxz5 xx6 xxz6 xx7 xxz7 xx8 xxz8 xy0 xyz0 xy1 xyz1 xy2 xyz2 xy3 xyz3 xy4 xyz4 xy5 xyz5 xy6 xyz6 xy7 xyz7 xy8 xyz8
              replace hB := below_seq hB hk
              replace xx := xx.seq hk
              replace xy := xy.seq hk
              clear hk
              have xx0 := xx.cell 0 rfl
              have xxz0 := xx.frozen 0
              have xx1 := xx.cell 1 rfl
              have xxz1 := xx.frozen 1
              have xx2 := xx.cell 2 rfl
              have xxz2 := xx.frozen 2
              have xx3 := xx.cell 3 rfl
              have xxz3 := xx.frozen 3
              have xx4 := xx.cell 4 rfl
              have xxz4 := xx.frozen 4
              have xx5 := xx.cell 5 rfl
              have xxz5 := xx.frozen 5
              have xx6 := xx.cell 6 rfl
              have xxz6 := xx.frozen 6
              have xx7 := xx.cell 7 rfl
              have xxz7 := xx.frozen 7
              have xx8 := xx.cell 8 rfl
              have xxz8 := xx.frozen 8
              have xy0 := xy.cell 0 rfl
              have xyz0 := xy.frozen 0
              have xy1 := xy.cell 1 rfl
              have xyz1 := xy.frozen 1
              have xy2 := xy.cell 2 rfl
              have xyz2 := xy.frozen 2
              have xy3 := xy.cell 3 rfl
              have xyz3 := xy.frozen 3
              have xy4 := xy.cell 4 rfl
              have xyz4 := xy.frozen 4
              have xy5 := xy.cell 5 rfl
              have xyz5 := xy.frozen 5
              have xy6 := xy.cell 6 rfl
              have xyz6 := xy.frozen 6
              have xy7 := xy.cell 7 rfl
              have xyz7 := xy.frozen 7
              have xy8 := xy.cell 8 rfl
              have xyz8 := xy.frozen 8
              try go_wp2_with fail
              clear xx0 xxz0 xx1 xxz1 xx2 xxz2 xx3 xxz3 xx4 xxz4 xx5 xxz5 xx6 xxz6 xx7 xxz7 xx8 xxz8 xy0 xyz0 xy1 xyz1 xy2 xyz2 xy3 xyz3 xy4 xyz4 xy5 xyz5 xy6 xyz6 xy7 xyz7 xy8 xyz8
              clear hHeld
              refine hK.out _ _ ?_ (fun hHeld => ?_)
              · exact ⟨xx.cell 0 rfl, xx.cell 1 rfl, xx.cell 2 rfl, xx.cell 3 rfl, xx.cell 4 rfl, xx.cell 5 rfl, xx.cell 6 rfl, xx.cell 7 rfl, xx.cell 8 rfl, HC.out _ hB⟩
              clear hK K
              try simp only [Act.put, List.getElem_toArray, List.getElem_cons_zero, List.getElem_cons_succ, List.setIfInBounds_toArray, List.set_cons_zero, List.set_cons_succ]
              refine wpAnyH_ready (rs := [8]) (by kernel_rfl) (by simp) ?_
              refine AllReadyH.cons rfl (fun K hK => ?_) (AllReadyH.nil)
              have xx0 := xx.cell 0 rfl
              have xxz0 := xx.frozen 0
              have xx1 := xx.cell 1 rfl
              have xxz1 := xx.frozen 1
              have xx2 := xx.cell 2 rfl
              have xxz2 := xx.frozen 2
              have xx3 := xx.cell 3 rfl
              have xxz3 := xx.frozen 3
              have xx4 := xx.cell 4 rfl
              have xxz4 := xx.frozen 4
              have xx5 := xx.cell 5 rfl
              have xxz5 := xx.frozen 5
              have xx6 := xx.cell 6 rfl
              have xxz6 := xx.frozen 6
              have xx7 := xx.cell 7 rfl
              have xxz7 := xx.frozen 7
              have xx8 := xx.cell 8 rfl
              have xxz8 := xx.frozen 8
              have xy0 := xy.cell 0 rfl
              have xyz0 := xy.frozen 0
              have xy1 := xy.cell 1 rfl
              have xyz1 := xy.frozen 1
              have xy2 := xy.cell 2 rfl
              have xyz2 := xy.frozen 2
              have xy3 := xy.cell 3 rfl
              have xyz3 := xy.frozen 3
              have xy4 := xy.cell 4 rfl
              have xyz4 := xy.frozen 4
              have xy5 := xy.cell 5 rfl
              have xyz5 := xy.frozen 5
              have xy6 := xy.cell 6 rfl
              have xyz6 := xy.frozen 6
              have xy7 := xy.cell 7 rfl
              have xyz7 := xy.frozen 7
              have xy8 := xy.cell 8 rfl
              have xyz8 := xy.frozen 8
              go_simp
              try go_wp2_with fail
              clear xx0 xxz0 xx1 xxz1 xx2 xxz2 xx3 xxz3 xx4 xxz4 xx5 xxz5 xx6 xxz6 xx7 xxz7 xx8 xxz8 xy0 xyz0 xy1 xyz1 xy2 xyz2 xy3 xyz3 xy4 xyz4 xy5 xyz5 xy6 xyz6 xy7 xyz7 xy8 xyz8
              replace xx : Box 33 (((((((((V5.setCell ⟨g_xy, 0, none⟩ (.string yf.b0)).setCell ⟨g_xy, 1, none⟩ (.string yf.b1)).setCell ⟨g_xy, 2, none⟩ (.int .i64 yf.e0)).setCell ⟨g_xy, 3, none⟩ (.int .i64 yf.e1)).setCell ⟨g_xy, 4, none⟩ (.int .i64 yf.lim)).setCell ⟨g_xy, 5, none⟩ (.int .i64 (N2 : Int))).setCell ⟨g_xy, 6, none⟩ (.int .u64 (yl : Int))).setCell ⟨g_xy, 7, none⟩ (.bool yb)).setCell ⟨g_xy, 8, none⟩ (.int .u64 (yt : Int))) (V2.heap.size) [.string yf.b0, .string yf.b1, .int .i64 yf.e0, .int .i64 yf.e1, .int .i64 yf.lim, .int .i64 (N2 : Int), .int .u64 (yl : Int), .bool yb, .int .u64 (yt : Int)] := (((((((((xx.other ne_xy_xx 0 (.string yf.b0)).other ne_xy_xx 1 (.string yf.b1)).other ne_xy_xx 2 (.int .i64 yf.e0)).other ne_xy_xx 3 (.int .i64 yf.e1)).other ne_xy_xx 4 (.int .i64 yf.lim)).other ne_xy_xx 5 (.int .i64 (N2 : Int))).other ne_xy_xx 6 (.int .u64 (yl : Int))).other ne_xy_xx 7 (.bool yb)).other ne_xy_xx 8 (.int .u64 (yt : Int)))
              replace xy : Box 33 (((((((((V5.setCell ⟨g_xy, 0, none⟩ (.string yf.b0)).setCell ⟨g_xy, 1, none⟩ (.string yf.b1)).setCell ⟨g_xy, 2, none⟩ (.int .i64 yf.e0)).setCell ⟨g_xy, 3, none⟩ (.int .i64 yf.e1)).setCell ⟨g_xy, 4, none⟩ (.int .i64 yf.lim)).setCell ⟨g_xy, 5, none⟩ (.int .i64 (N2 : Int))).setCell ⟨g_xy, 6, none⟩ (.int .u64 (yl : Int))).setCell ⟨g_xy, 7, none⟩ (.bool yb)).setCell ⟨g_xy, 8, none⟩ (.int .u64 (yt : Int))) (g_xy) [.string yf.b0, .string yf.b1, .int .i64 yf.e0, .int .i64 yf.e1, .int .i64 yf.lim, .int .i64 (N2 : Int), .int .u64 (yl : Int), .bool yb, .int .u64 (yt : Int)] := (((((((((xy.set 0 (.string yf.b0)).set 1 (.string yf.b1)).set 2 (.int .i64 yf.e0)).set 3 (.int .i64 yf.e1)).set 4 (.int .i64 yf.lim)).set 5 (.int .i64 (N2 : Int))).set 6 (.int .u64 (yl : Int))).set 7 (.bool yb)).set 8 (.int .u64 (yt : Int)))
              replace hB : Below W.heap.size W (((((((((V5.setCell ⟨g_xy, 0, none⟩ (.string yf.b0)).setCell ⟨g_xy, 1, none⟩ (.string yf.b1)).setCell ⟨g_xy, 2, none⟩ (.int .i64 yf.e0)).setCell ⟨g_xy, 3, none⟩ (.int .i64 yf.e1)).setCell ⟨g_xy, 4, none⟩ (.int .i64 yf.lim)).setCell ⟨g_xy, 5, none⟩ (.int .i64 (N2 : Int))).setCell ⟨g_xy, 6, none⟩ (.int .u64 (yl : Int))).setCell ⟨g_xy, 7, none⟩ (.bool yb)).setCell ⟨g_xy, 8, none⟩ (.int .u64 (yt : Int))) := (((((((((hB.setCell le_xy _).setCell le_xy _).setCell le_xy _).setCell le_xy _).setCell le_xy _).setCell le_xy _).setCell le_xy _).setCell le_xy _).setCell le_xy _)
              generalize (((((((((V5.setCell ⟨g_xy, 0, none⟩ (.string yf.b0)).setCell ⟨g_xy, 1, none⟩ (.string yf.b1)).setCell ⟨g_xy, 2, none⟩ (.int .i64 yf.e0)).setCell ⟨g_xy, 3, none⟩ (.int .i64 yf.e1)).setCell ⟨g_xy, 4, none⟩ (.int .i64 yf.lim)).setCell ⟨g_xy, 5, none⟩ (.int .i64 (N2 : Int))).setCell ⟨g_xy, 6, none⟩ (.int .u64 (yl : Int))).setCell ⟨g_xy, 7, none⟩ (.bool yb)).setCell ⟨g_xy, 8, none⟩ (.int .u64 (yt : Int))) = V6 at *
              clear hHeld
              refine hK.out _ _ ?_ (fun hHeld => ?_)
              · exact ⟨xx.cell 0 rfl, xx.cell 1 rfl, xx.cell 2 rfl, xx.cell 3 rfl, xx.cell 4 rfl, xx.cell 5 rfl, xx.cell 6 rfl, xx.cell 7 rfl, xx.cell 8 rfl, HC.out _ hB⟩
              clear hK K
              try simp only [Act.put, List.getElem_toArray, List.getElem_cons_zero, List.getElem_cons_succ, List.setIfInBounds_toArray, List.set_cons_zero, List.set_cons_succ]
              refine wpAnyH_done (by kernel_rfl) ?_ _
              clear hHeld
              have xx0 := xx.cell 0 rfl
              have xxz0 := xx.frozen 0
              have xx1 := xx.cell 1 rfl
              have xxz1 := xx.frozen 1
              have xx2 := xx.cell 2 rfl
              have xxz2 := xx.frozen 2
              have xx3 := xx.cell 3 rfl
              have xxz3 := xx.frozen 3
              have xx4 := xx.cell 4 rfl
              have xxz4 := xx.frozen 4
              have xx5 := xx.cell 5 rfl
              have xxz5 := xx.frozen 5
              have xx6 := xx.cell 6 rfl
              have xxz6 := xx.frozen 6
              have xx7 := xx.cell 7 rfl
              have xxz7 := xx.frozen 7
              have xx8 := xx.cell 8 rfl
              have xxz8 := xx.frozen 8
              have xy0 := xy.cell 0 rfl
              have xyz0 := xy.frozen 0
              have xy1 := xy.cell 1 rfl
              have xyz1 := xy.frozen 1
              have xy2 := xy.cell 2 rfl
              have xyz2 := xy.frozen 2
              have xy3 := xy.cell 3 rfl
              have xyz3 := xy.frozen 3
              have xy4 := xy.cell 4 rfl
              have xyz4 := xy.frozen 4
              have xy5 := xy.cell 5 rfl
              have xyz5 := xy.frozen 5
              have xy6 := xy.cell 6 rfl
              have xyz6 := xy.frozen 6
              have xy7 := xy.cell 7 rfl
              have xyz7 := xy.frozen 7
              have xy8 := xy.cell 8 rfl
              have xyz8 := xy.frozen 8
              go_wp2
              go_ret
              exact ⟨rfl, hB⟩
          · have xx0 := xx.cell 0 rfl
            have xxz0 := xx.frozen 0
            have xx1 := xx.cell 1 rfl
            have xxz1 := xx.frozen 1
            have xx2 := xx.cell 2 rfl
            have xxz2 := xx.frozen 2
            have xx3 := xx.cell 3 rfl
            have xxz3 := xx.frozen 3
            have xx4 := xx.cell 4 rfl
            have xxz4 := xx.frozen 4
            have xx5 := xx.cell 5 rfl
            have xxz5 := xx.frozen 5
            have xx6 := xx.cell 6 rfl
            have xxz6 := xx.frozen 6
            have xx7 := xx.cell 7 rfl
            have xxz7 := xx.frozen 7
            have xx8 := xx.cell 8 rfl
            have xxz8 := xx.frozen 8
            go_simp
            try go_wp2_with fail
            clear xx0 xxz0 xx1 xxz1 xx2 xxz2 xx3 xxz3 xx4 xxz4 xx5 xxz5 xx6 xxz6 xx7 xxz7 xx8 xxz8
            have xy := Box.new 33 V3 [.string ⟨#[]⟩, .string ⟨#[]⟩, .int .i64 0, .int .i64 0, .int .i64 0, .int .i64 0, .int .u64 0, .bool false, .int .u64 0]
            have ne_xy_xx : V3.heap.size ≠ V2.heap.size := Nat.ne_of_gt xx.lt
            have le_xy : W.heap.size ≤ V3.heap.size := hB.size
            replace xx := xx.alloc (.cells #[.string ⟨#[]⟩, .string ⟨#[]⟩, .int .i64 0, .int .i64 0, .int .i64 0, .int .i64 0, .int .u64 0, .bool false, .int .u64 0] 33)
            replace hB := hB.alloc hB.size (.cells #[.string ⟨#[]⟩, .string ⟨#[]⟩, .int .i64 0, .int .i64 0, .int .i64 0, .int .i64 0, .int .u64 0, .bool false, .int .u64 0] 33)
            have xx0 := xx.cell 0 rfl
            have xxz0 := xx.frozen 0
            have xx1 := xx.cell 1 rfl
            have xxz1 := xx.frozen 1
            have xx2 := xx.cell 2 rfl
            have xxz2 := xx.frozen 2
            have xx3 := xx.cell 3 rfl
            have xxz3 := xx.frozen 3
            have xx4 := xx.cell 4 rfl
            have xxz4 := xx.frozen 4
            have xx5 := xx.cell 5 rfl
            have xxz5 := xx.frozen 5
            have xx6 := xx.cell 6 rfl
            have xxz6 := xx.frozen 6
            have xx7 := xx.cell 7 rfl
            have xxz7 := xx.frozen 7
            have xx8 := xx.cell 8 rfl
            have xxz8 := xx.frozen 8
            have xy0 := xy.cell 0 rfl
            have xyz0 := xy.frozen 0
            have xy1 := xy.cell 1 rfl
            have xyz1 := xy.frozen 1
            have xy2 := xy.cell 2 rfl
            have xyz2 := xy.frozen 2
            have xy3 := xy.cell 3 rfl
            have xyz3 := xy.frozen 3
            have xy4 := xy.cell 4 rfl
            have xyz4 := xy.frozen 4
            have xy5 := xy.cell 5 rfl
            have xyz5 := xy.frozen 5
            have xy6 := xy.cell 6 rfl
            have xyz6 := xy.frozen 6
            have xy7 := xy.cell 7 rfl
            have xyz7 := xy.frozen 7
            have xy8 := xy.cell 8 rfl
            have xyz8 := xy.frozen 8
            generalize (V3.alloc (.cells #[.string ⟨#[]⟩, .string ⟨#[]⟩, .int .i64 0, .int .i64 0, .int .i64 0, .int .i64 0, .int .u64 0, .bool false, .int .u64 0] 33)) = V4 at *
            generalize V3.heap.size = g_xy at *
            clear xx0 xxz0 xx1 xxz1 xx2 xxz2 xx3 xxz3 xx4 xxz4 xx5 xxz5 xx6 xxz6 xx7 xxz7 xx8 xxz8 xy0 xyz0 xy1 xyz1 xy2 xyz2 xy3 xyz3 xy4 xyz4 xy5 xyz5 xy6 xyz6 xy7 xyz7 xy8 xyz8
            clear hHeld
            refine hK.out _ _ ?_ (fun hHeld => ?_)
            · exact ⟨xx.cell 0 rfl, xx.cell 1 rfl, xx.cell 2 rfl, xx.cell 3 rfl, xx.cell 4 rfl, xx.cell 5 rfl, xx.cell 6 rfl, xx.cell 7 rfl, xx.cell 8 rfl, HC.out _ hB⟩
            clear hK K
            try simp only [Act.put, List.getElem_toArray, List.getElem_cons_zero, List.getElem_cons_succ, List.setIfInBounds_toArray, List.set_cons_zero, List.set_cons_succ]
            refine wpAnyH_ready (rs := [5]) (by kernel_rfl) (by simp) ?_
            refine AllReadyH.cons rfl (fun K hK => ?_) (AllReadyH.nil)
            have xx0 := xx.cell 0 rfl
            have xxz0 := xx.frozen 0
            have xx1 := xx.cell 1 rfl
            have xxz1 := xx.frozen 1
            have xx2 := xx.cell 2 rfl
            have xxz2 := xx.frozen 2
            have xx3 := xx.cell 3 rfl
            have xxz3 := xx.frozen 3
            have xx4 := xx.cell 4 rfl
            have xxz4 := xx.frozen 4
            have xx5 := xx.cell 5 rfl
            have xxz5 := xx.frozen 5
            have xx6 := xx.cell 6 rfl
            have xxz6 := xx.frozen 6
            have xx7 := xx.cell 7 rfl
            have xxz7 := xx.frozen 7
            have xx8 := xx.cell 8 rfl
            have xxz8 := xx.frozen 8
            have xy0 := xy.cell 0 rfl
            have xyz0 := xy.frozen 0
            have xy1 := xy.cell 1 rfl
            have xyz1 := xy.frozen 1
            have xy2 := xy.cell 2 rfl
            have xyz2 := xy.frozen 2
            have xy3 := xy.cell 3 rfl
            have xyz3 := xy.frozen 3
            have xy4 := xy.cell 4 rfl
            have xyz4 := xy.frozen 4
            have xy5 := xy.cell 5 rfl
            have xyz5 := xy.frozen 5
            have xy6 := xy.cell 6 rfl
            have xyz6 := xy.frozen 6
            have xy7 := xy.cell 7 rfl
            have xyz7 := xy.frozen 7
            have xy8 := xy.cell 8 rfl
            have xyz8 := xy.frozen 8
            go_simp
            try go_wp2_with fail
            clear xx0 xxz0 xx1 xxz1 xx2 xxz2 xx3 xxz3 xx4 xxz4 xx5 xxz5 xx6 xxz6 xx7 xxz7 xx8 xxz8 xy0 xyz0 xy1 xyz1 xy2 xyz2 xy3 xyz3 xy4 xyz4 xy5 xyz5 xy6 xyz6 xy7 xyz7 xy8 xyz8
            clear hHeld
            refine hK.out _ _ ?_ (fun hHeld => ?_)
            · exact ⟨xx.cell 0 rfl, xx.cell 1 rfl, xx.cell 2 rfl, xx.cell 3 rfl, xx.cell 4 rfl, xx.cell 5 rfl, xx.cell 6 rfl, xx.cell 7 rfl, xx.cell 8 rfl, HC.out _ hB⟩
            clear hK K
            try simp only [Act.put, List.getElem_toArray, List.getElem_cons_zero, List.getElem_cons_succ, List.setIfInBounds_toArray, List.set_cons_zero, List.set_cons_succ]
            refine wpAnyH_ready (rs := [6]) (by kernel_rfl) (by simp) ?_
            refine AllReadyH.cons rfl (fun K hK => ?_) (AllReadyH.nil)
            have xx0 := xx.cell 0 rfl
            have xxz0 := xx.frozen 0
            have xx1 := xx.cell 1 rfl
            have xxz1 := xx.frozen 1
            have xx2 := xx.cell 2 rfl
            have xxz2 := xx.frozen 2
            have xx3 := xx.cell 3 rfl
            have xxz3 := xx.frozen 3
            have xx4 := xx.cell 4 rfl
            have xxz4 := xx.frozen 4
            have xx5 := xx.cell 5 rfl
            have xxz5 := xx.frozen 5
            have xx6 := xx.cell 6 rfl
            have xxz6 := xx.frozen 6
            have xx7 := xx.cell 7 rfl
            have xxz7 := xx.frozen 7
            have xx8 := xx.cell 8 rfl
            have xxz8 := xx.frozen 8
            have xy0 := xy.cell 0 rfl
            have xyz0 := xy.frozen 0
            have xy1 := xy.cell 1 rfl
            have xyz1 := xy.frozen 1
            have xy2 := xy.cell 2 rfl
            have xyz2 := xy.frozen 2
            have xy3 := xy.cell 3 rfl
            have xyz3 := xy.frozen 3
            have xy4 := xy.cell 4 rfl
            have xyz4 := xy.frozen 4
            have xy5 := xy.cell 5 rfl
            have xyz5 := xy.frozen 5
            have xy6 := xy.cell 6 rfl
            have xyz6 := xy.frozen 6
            have xy7 := xy.cell 7 rfl
            have xyz7 := xy.frozen 7
            have xy8 := xy.cell 8 rfl
            have xyz8 := xy.frozen 8
            go_simp
            refine (TP.out _).mono ?_
            rintro e V5 ⟨rfl, hk⟩
            clear xx0 xxz0 xx1 xxz1 xx2 xxz2 xx3 xxz3 xx4 xxz4 xx5 xxz5 xx6 xxz6 xx7 xxz7 xx8 xxz8 xy0 xyz0 xy1 xyz1 xy2 xyz2 xy3 xyz3 xy4 xyz4 xy5 xyz5 xy6 xyz6 xy7 xyz7 xy8 xyz8
            replace hB := below_seq hB hk
            replace xx := xx.seq hk
            replace xy := xy.seq hk
            clear hk
            have xx0 := xx.cell 0 rfl
            have xxz0 := xx.frozen 0
            have xx1 := xx.cell 1 rfl
            have xxz1 := xx.frozen 1
            have xx2 := xx.cell 2 rfl
            have xxz2 := xx.frozen 2
            have xx3 := xx.cell 3 rfl
            have xxz3 := xx.frozen 3
            have xx4 := xx.cell 4 rfl
            have xxz4 := xx.frozen 4
            have xx5 := xx.cell 5 rfl
            have xxz5 := xx.frozen 5
            have xx6 := xx.cell 6 rfl
            have xxz6 := xx.frozen 6
            have xx7 := xx.cell 7 rfl
            have xxz7 := xx.frozen 7
            have xx8 := xx.cell 8 rfl
            have xxz8 := xx.frozen 8
            have xy0 := xy.cell 0 rfl
            have xyz0 := xy.frozen 0
            have xy1 := xy.cell 1 rfl
            have xyz1 := xy.frozen 1
            have xy2 := xy.cell 2 rfl
            have xyz2 := xy.frozen 2
            have xy3 := xy.cell 3 rfl
            have xyz3 := xy.frozen 3
            have xy4 := xy.cell 4 rfl
            have xyz4 := xy.frozen 4
            have xy5 := xy.cell 5 rfl
            have xyz5 := xy.frozen 5
            have xy6 := xy.cell 6 rfl
            have xyz6 := xy.frozen 6
            have xy7 := xy.cell 7 rfl
            have xyz7 := xy.frozen 7
            have xy8 := xy.cell 8 rfl
            have xyz8 := xy.frozen 8
            try go_wp2_with fail
            clear xx0 xxz0 xx1 xxz1 xx2 xxz2 xx3 xxz3 xx4 xxz4 xx5 xxz5 xx6 xxz6 xx7 xxz7 xx8 xxz8 xy0 xyz0 xy1 xyz1 xy2 xyz2 xy3 xyz3 xy4 xyz4 xy5 xyz5 xy6 xyz6 xy7 xyz7 xy8 xyz8
            clear hHeld
            refine hK.out _ _ ?_ (fun hHeld => ?_)
            · exact ⟨xx.cell 0 rfl, xx.cell 1 rfl, xx.cell 2 rfl, xx.cell 3 rfl, xx.cell 4 rfl, xx.cell 5 rfl, xx.cell 6 rfl, xx.cell 7 rfl, xx.cell 8 rfl, HC.out _ hB⟩
            clear hK K
            try simp only [Act.put, List.getElem_toArray, List.getElem_cons_zero, List.getElem_cons_succ, List.setIfInBounds_toArray, List.set_cons_zero, List.set_cons_succ]
            refine wpAnyH_ready (rs := [8]) (by kernel_rfl) (by simp) ?_
            refine AllReadyH.cons rfl (fun K hK => ?_) (AllReadyH.nil)
            have xx0 := xx.cell 0 rfl
            have xxz0 := xx.frozen 0
            have xx1 := xx.cell 1 rfl
            have xxz1 := xx.frozen 1
            have xx2 := xx.cell 2 rfl
            have xxz2 := xx.frozen 2
            have xx3 := xx.cell 3 rfl
            have xxz3 := xx.frozen 3
            have xx4 := xx.cell 4 rfl
            have xxz4 := xx.frozen 4
            have xx5 := xx.cell 5 rfl
            have xxz5 := xx.frozen 5
            have xx6 := xx.cell 6 rfl
            have xxz6 := xx.frozen 6
            have xx7 := xx.cell 7 rfl
            have xxz7 := xx.frozen 7
            have xx8 := xx.cell 8 rfl
            have xxz8 := xx.frozen 8
            have xy0 := xy.cell 0 rfl
            have xyz0 := xy.frozen 0
            have xy1 := xy.cell 1 rfl
            have xyz1 := xy.frozen 1
            have xy2 := xy.cell 2 rfl
            have xyz2 := xy.frozen 2
            have xy3 := xy.cell 3 rfl
            have xyz3 := xy.frozen 3
            have xy4 := xy.cell 4 rfl
            have xyz4 := xy.frozen 4
            have xy5 := xy.cell 5 rfl
            have xyz5 := xy.frozen 5
            have xy6 := xy.cell 6 rfl
            have xyz6 := xy.frozen 6
            have xy7 := xy.cell 7 rfl
            have xyz7 := xy.frozen 7
            have xy8 := xy.cell 8 rfl
            have xyz8 := xy.frozen 8
            go_simp
            try go_wp2_with fail
            clear xx0 xxz0 xx1 xxz1 xx2 xxz2 xx3 xxz3 xx4 xxz4 xx5 xxz5 xx6 xxz6 xx7 xxz7 xx8 xxz8 xy0 xyz0 xy1 xyz1 xy2 xyz2 xy3 xyz3 xy4 xyz4 xy5 xyz5 xy6 xyz6 xy7 xyz7 xy8 xyz8
            replace xx : Box 33 (((((((((V5.setCell ⟨g_xy, 0, none⟩ (.string yf.b0)).setCell ⟨g_xy, 1, none⟩ (.string yf.b1)).setCell ⟨g_xy, 2, none⟩ (.int .i64 yf.e0)).setCell ⟨g_xy, 3, none⟩ (.int .i64 yf.e1)).setCell ⟨g_xy, 4, none⟩ (.int .i64 yf.lim)).setCell ⟨g_xy, 5, none⟩ (.int .i64 (N2 : Int))).setCell ⟨g_xy, 6, none⟩ (.int .u64 (yl : Int))).setCell ⟨g_xy, 7, none⟩ (.bool yb)).setCell ⟨g_xy, 8, none⟩ (.int .u64 (yt : Int))) (V2.heap.size) [.string yf.b0, .string yf.b1, .int .i64 yf.e0, .int .i64 yf.e1, .int .i64 yf.lim, .int .i64 (N2 : Int), .int .u64 (yl : Int), .bool yb, .int .u64 (yt : Int)] := (((((((((xx.other ne_xy_xx 0 (.string yf.b0)).other ne_xy_xx 1 (.string yf.b1)).other ne_xy_xx 2 (.int .i64 yf.e0)).other ne_xy_xx 3 (.int .i64 yf.e1)).other ne_xy_xx 4 (.int .i64 yf.lim)).other ne_xy_xx 5 (.int .i64 (N2 : Int))).other ne_xy_xx 6 (.int .u64 (yl : Int))).other ne_xy_xx 7 (.bool yb)).other ne_xy_xx 8 (.int .u64 (yt : Int)))
            replace xy : Box 33 (((((((((V5.setCell ⟨g_xy, 0, none⟩ (.string yf.b0)).setCell ⟨g_xy, 1, none⟩ (.string yf.b1)).setCell ⟨g_xy, 2, none⟩ (.int .i64 yf.e0)).setCell ⟨g_xy, 3, none⟩ (.int .i64 yf.e1)).setCell ⟨g_xy, 4, none⟩ (.int .i64 yf.lim)).setCell ⟨g_xy, 5, none⟩ (.int .i64 (N2 : Int))).setCell ⟨g_xy, 6, none⟩ (.int .u64 (yl : Int))).setCell ⟨g_xy, 7, none⟩ (.bool yb)).setCell ⟨g_xy, 8, none⟩ (.int .u64 (yt : Int))) (g_xy) [.string yf.b0, .string yf.b1, .int .i64 yf.e0, .int .i64 yf.e1, .int .i64 yf.lim, .int .i64 (N2 : Int), .int .u64 (yl : Int), .bool yb, .int .u64 (yt : Int)] := (((((((((xy.set 0 (.string yf.b0)).set 1 (.string yf.b1)).set 2 (.int .i64 yf.e0)).set 3 (.int .i64 yf.e1)).set 4 (.int .i64 yf.lim)).set 5 (.int .i64 (N2 : Int))).set 6 (.int .u64 (yl : Int))).set 7 (.bool yb)).set 8 (.int .u64 (yt : Int)))
            replace hB : Below W.heap.size W (((((((((V5.setCell ⟨g_xy, 0, none⟩ (.string yf.b0)).setCell ⟨g_xy, 1, none⟩ (.string yf.b1)).setCell ⟨g_xy, 2, none⟩ (.int .i64 yf.e0)).setCell ⟨g_xy, 3, none⟩ (.int .i64 yf.e1)).setCell ⟨g_xy, 4, none⟩ (.int .i64 yf.lim)).setCell ⟨g_xy, 5, none⟩ (.int .i64 (N2 : Int))).setCell ⟨g_xy, 6, none⟩ (.int .u64 (yl : Int))).setCell ⟨g_xy, 7, none⟩ (.bool yb)).setCell ⟨g_xy, 8, none⟩ (.int .u64 (yt : Int))) := (((((((((hB.setCell le_xy _).setCell le_xy _).setCell le_xy _).setCell le_xy _).setCell le_xy _).setCell le_xy _).setCell le_xy _).setCell le_xy _).setCell le_xy _)
            generalize (((((((((V5.setCell ⟨g_xy, 0, none⟩ (.string yf.b0)).setCell ⟨g_xy, 1, none⟩ (.string yf.b1)).setCell ⟨g_xy, 2, none⟩ (.int .i64 yf.e0)).setCell ⟨g_xy, 3, none⟩ (.int .i64 yf.e1)).setCell ⟨g_xy, 4, none⟩ (.int .i64 yf.lim)).setCell ⟨g_xy, 5, none⟩ (.int .i64 (N2 : Int))).setCell ⟨g_xy, 6, none⟩ (.int .u64 (yl : Int))).setCell ⟨g_xy, 7, none⟩ (.bool yb)).setCell ⟨g_xy, 8, none⟩ (.int .u64 (yt : Int))) = V6 at *
            clear hHeld
            refine hK.out _ _ ?_ (fun hHeld => ?_)
            · exact ⟨xx.cell 0 rfl, xx.cell 1 rfl, xx.cell 2 rfl, xx.cell 3 rfl, xx.cell 4 rfl, xx.cell 5 rfl, xx.cell 6 rfl, xx.cell 7 rfl, xx.cell 8 rfl, HC.out _ hB⟩
            clear hK K
            try simp only [Act.put, List.getElem_toArray, List.getElem_cons_zero, List.getElem_cons_succ, List.setIfInBounds_toArray, List.set_cons_zero, List.set_cons_succ]
            refine wpAnyH_done (by kernel_rfl) ?_ _
            clear hHeld
            have xx0 := xx.cell 0 rfl
            have xxz0 := xx.frozen 0
            have xx1 := xx.cell 1 rfl
            have xxz1 := xx.frozen 1
            have xx2 := xx.cell 2 rfl
            have xxz2 := xx.frozen 2
            have xx3 := xx.cell 3 rfl
            have xxz3 := xx.frozen 3
            have xx4 := xx.cell 4 rfl
            have xxz4 := xx.frozen 4
            have xx5 := xx.cell 5 rfl
            have xxz5 := xx.frozen 5
            have xx6 := xx.cell 6 rfl
            have xxz6 := xx.frozen 6
            have xx7 := xx.cell 7 rfl
            have xxz7 := xx.frozen 7
            have xx8 := xx.cell 8 rfl
            have xxz8 := xx.frozen 8
            have xy0 := xy.cell 0 rfl
            have xyz0 := xy.frozen 0
            have xy1 := xy.cell 1 rfl
            have xyz1 := xy.frozen 1
            have xy2 := xy.cell 2 rfl
            have xyz2 := xy.frozen 2
            have xy3 := xy.cell 3 rfl
            have xyz3 := xy.frozen 3
            have xy4 := xy.cell 4 rfl
            have xyz4 := xy.frozen 4
            have xy5 := xy.cell 5 rfl
            have xyz5 := xy.frozen 5
            have xy6 := xy.cell 6 rfl
            have xyz6 := xy.frozen 6
            have xy7 := xy.cell 7 rfl
            have xyz7 := xy.frozen 7
            have xy8 := xy.cell 8 rfl
            have xyz8 := xy.frozen 8
            go_wp2
            go_ret
            exact ⟨rfl, hB⟩
        · obtain ⟨s3, s4, s5, s6⟩ := s2 (by omega)
          dsimp only at s4 s5 s6 hyf
          replace s4 : ya = (j : Int) + 1 := by omega
          subst s4
          obtain rfl : d = yl := s5.symm
          have m3 : ¬ (j : Int) ≥ (N2 : Int) := by omega
          obtain ⟨Q, hQ⟩ : ∃ Q, j / K = Q := ⟨_, rfl⟩
          have hjK : Q ≤ j := by rw [← hQ]; exact Nat.div_le_self _ _
          rw [hQ] at s6
          clear s1 s2
          have TW := Lib.hid (fun (V : World) => (show Calls Try.prog 16 #[.agg #[.string yf.b0, .string yf.b1, .int .i64 yf.e0, .int .i64 yf.e1, .int .i64 yf.lim]] V fun e W' => e = .returned (.int .i64 ((Q + 1 : Nat) : Int)) ∧ Below V.heap.size V W' from by have h := own12Wear yf V hyf.ok; rw [show wearF yf = ((Q + 1 : Nat) : Int) from by unfold wearF; rw [s6]; exact IntWalk.wrap64_in _ (by omega)] at h; exact h))
          have q1 : (j : Int).tdiv (1 + (n.toNat : Int) % 12) = (Q : Int) := by rw [← hKs.out, ← hQ]; rfl
          have q2 : IntKind.i64.wrap ((Q : Int) + 1) = ((Q + 1 : Nat) : Int) := by rw [IntWalk.i64_in _ (by omega)]; rfl
          have q3 : IntKind.i64.wrap (Q : Int) = (Q : Int) := IntWalk.i64_in _ (by omega)
          replace s3 := Lib.hid s3
          clear hQ s6 HX hxf hxa hy hfull
          go_wp2_with fail
          replace hB := hB.drew
          replace xx := xx.drew
          refine wp_region_held_drew (S := fun w' => w'.cell? ⟨V2.heap.size, 0, none⟩ = some (.string x.f.b0) ∧ w'.cell? ⟨V2.heap.size, 1, none⟩ = some (.string x.f.b1) ∧ w'.cell? ⟨V2.heap.size, 2, none⟩ = some (.int .i64 x.f.e0) ∧ w'.cell? ⟨V2.heap.size, 3, none⟩ = some (.int .i64 x.f.e1) ∧ w'.cell? ⟨V2.heap.size, 4, none⟩ = some (.int .i64 x.f.lim) ∧ w'.cell? ⟨V2.heap.size, 5, none⟩ = some (.int .i64 x.acked) ∧ w'.cell? ⟨V2.heap.size, 6, none⟩ = some (.int .u64 (x.last : Int)) ∧ w'.cell? ⟨V2.heap.size, 7, none⟩ = some (.bool x.flying) ∧ w'.cell? ⟨V2.heap.size, 8, none⟩ = some (.int .u64 (x.flight : Int)) ∧ w'.cell? ⟨g, off + j, none⟩ = some (.int .u64 (d : Int))) (by kernel_rfl) ?_ (fun hHeld => ?_)
          · exact ⟨xx.cell 0 rfl, xx.cell 1 rfl, xx.cell 2 rfl, xx.cell 3 rfl, xx.cell 4 rfl, xx.cell 5 rfl, xx.cell 6 rfl, xx.cell 7 rfl, xx.cell 8 rfl, HC.out _ hB⟩
          generalize wr.drew = V3 at *
          refine wpAnyH_take (i := 0) (v := ?_) rfl (by kernel_rfl) (by kernel_rfl) (by kernel_rfl) (fun _ _ _ h => h) (Or.inl ⟨by rfl, ?_⟩) (by assumption) ?_
          rotate_left
          · intro w hSw; (try dsimp only at hSw); go_simp; try with_reducible rfl
          try simp only [Act.put, List.getElem_toArray, List.getElem_cons_zero, List.getElem_cons_succ, List.setIfInBounds_toArray, List.set_cons_zero, List.set_cons_succ]
          refine wpAnyH_take (i := 1) (v := ?_) rfl (by kernel_rfl) (by kernel_rfl) (by kernel_rfl) (fun _ _ _ h => h) (Or.inl ⟨by rfl, ?_⟩) (by assumption) ?_
          rotate_left
          · intro w hSw; (try dsimp only at hSw); go_simp; try with_reducible rfl
          try simp only [Act.put, List.getElem_toArray, List.getElem_cons_zero, List.getElem_cons_succ, List.setIfInBounds_toArray, List.set_cons_zero, List.set_cons_succ]
          refine wpAnyH_take (i := 2) (v := ?_) rfl (by kernel_rfl) (by kernel_rfl) (by kernel_rfl) (fun _ _ _ h => h) (Or.inl ⟨by rfl, ?_⟩) (by assumption) ?_
          rotate_left
          · intro w hSw; (try dsimp only at hSw); go_simp; try with_reducible rfl
          try simp only [Act.put, List.getElem_toArray, List.getElem_cons_zero, List.getElem_cons_succ, List.setIfInBounds_toArray, List.set_cons_zero, List.set_cons_succ]
          refine wpAnyH_take (i := 3) (v := ?_) rfl (by kernel_rfl) (by kernel_rfl) (by kernel_rfl) (fun _ _ _ h => h) (Or.inl ⟨by rfl, ?_⟩) (by assumption) ?_
          rotate_left
          · intro w hSw; (try dsimp only at hSw); go_simp; try with_reducible rfl
          try simp only [Act.put, List.getElem_toArray, List.getElem_cons_zero, List.getElem_cons_succ, List.setIfInBounds_toArray, List.set_cons_zero, List.set_cons_succ]
          refine wpAnyH_take (i := 4) (v := ?_) rfl (by kernel_rfl) (by kernel_rfl) (by kernel_rfl) (fun _ _ _ h => h) (Or.inl ⟨by rfl, ?_⟩) (by assumption) ?_
          rotate_left
          · intro w hSw; (try dsimp only at hSw); go_simp; try with_reducible rfl
          try simp only [Act.put, List.getElem_toArray, List.getElem_cons_zero, List.getElem_cons_succ, List.setIfInBounds_toArray, List.set_cons_zero, List.set_cons_succ]
          refine wpAnyH_ready (rs := [5, 7]) (by kernel_rfl) (by simp) ?_
          refine AllReadyH.cons rfl (fun K hK => ?_) (AllReadyH.cons rfl (fun K hK => ?_) (AllReadyH.nil))
          · have xx0 := xx.cell 0 rfl
            have xxz0 := xx.frozen 0
            have xx1 := xx.cell 1 rfl
            have xxz1 := xx.frozen 1
            have xx2 := xx.cell 2 rfl
            have xxz2 := xx.frozen 2
            have xx3 := xx.cell 3 rfl
            have xxz3 := xx.frozen 3
            have xx4 := xx.cell 4 rfl
            have xxz4 := xx.frozen 4
            have xx5 := xx.cell 5 rfl
            have xxz5 := xx.frozen 5
            have xx6 := xx.cell 6 rfl
            have xxz6 := xx.frozen 6
            have xx7 := xx.cell 7 rfl
            have xxz7 := xx.frozen 7
            have xx8 := xx.cell 8 rfl
            have xxz8 := xx.frozen 8
            go_simp
            try go_wp2_with fail
            clear xx0 xxz0 xx1 xxz1 xx2 xxz2 xx3 xxz3 xx4 xxz4 xx5 xxz5 xx6 xxz6 xx7 xxz7 xx8 xxz8
            clear hHeld
            refine hK.out _ _ ?_ (fun hHeld => ?_)
            · exact ⟨xx.cell 0 rfl, xx.cell 1 rfl, xx.cell 2 rfl, xx.cell 3 rfl, xx.cell 4 rfl, xx.cell 5 rfl, xx.cell 6 rfl, xx.cell 7 rfl, xx.cell 8 rfl, HC.out _ hB⟩
            clear hK K
            try simp only [Act.put, List.getElem_toArray, List.getElem_cons_zero, List.getElem_cons_succ, List.setIfInBounds_toArray, List.set_cons_zero, List.set_cons_succ]
            refine wpAnyH_ready (rs := [6, 7]) (by kernel_rfl) (by simp) ?_
            refine AllReadyH.cons rfl (fun K hK => ?_) (AllReadyH.cons rfl (fun K hK => ?_) (AllReadyH.nil))
            · have xx0 := xx.cell 0 rfl
              have xxz0 := xx.frozen 0
              have xx1 := xx.cell 1 rfl
              have xxz1 := xx.frozen 1
              have xx2 := xx.cell 2 rfl
              have xxz2 := xx.frozen 2
              have xx3 := xx.cell 3 rfl
              have xxz3 := xx.frozen 3
              have xx4 := xx.cell 4 rfl
              have xxz4 := xx.frozen 4
              have xx5 := xx.cell 5 rfl
              have xxz5 := xx.frozen 5
              have xx6 := xx.cell 6 rfl
              have xxz6 := xx.frozen 6
              have xx7 := xx.cell 7 rfl
              have xxz7 := xx.frozen 7
              have xx8 := xx.cell 8 rfl
              have xxz8 := xx.frozen 8
              go_simp
              refine (TP.out _).mono ?_
              rintro e V4 ⟨rfl, hk⟩
              clear xx0 xxz0 xx1 xxz1 xx2 xxz2 xx3 xxz3 xx4 xxz4 xx5 xxz5 xx6 xxz6 xx7 xxz7 xx8 xxz8
              replace hB := below_seq hB hk
              replace xx := xx.seq hk
              clear hk
              have xx0 := xx.cell 0 rfl
              have xxz0 := xx.frozen 0
              have xx1 := xx.cell 1 rfl
              have xxz1 := xx.frozen 1
              have xx2 := xx.cell 2 rfl
              have xxz2 := xx.frozen 2
              have xx3 := xx.cell 3 rfl
              have xxz3 := xx.frozen 3
              have xx4 := xx.cell 4 rfl
              have xxz4 := xx.frozen 4
              have xx5 := xx.cell 5 rfl
              have xxz5 := xx.frozen 5
              have xx6 := xx.cell 6 rfl
              have xxz6 := xx.frozen 6
              have xx7 := xx.cell 7 rfl
              have xxz7 := xx.frozen 7
              have xx8 := xx.cell 8 rfl
              have xxz8 := xx.frozen 8
              try go_wp2_with fail
              clear xx0 xxz0 xx1 xxz1 xx2 xxz2 xx3 xxz3 xx4 xxz4 xx5 xxz5 xx6 xxz6 xx7 xxz7 xx8 xxz8
              clear hHeld
              refine hK.out _ _ ?_ (fun hHeld => ?_)
              · exact ⟨xx.cell 0 rfl, xx.cell 1 rfl, xx.cell 2 rfl, xx.cell 3 rfl, xx.cell 4 rfl, xx.cell 5 rfl, xx.cell 6 rfl, xx.cell 7 rfl, xx.cell 8 rfl, HC.out _ hB⟩
              clear hK K
              try simp only [Act.put, List.getElem_toArray, List.getElem_cons_zero, List.getElem_cons_succ, List.setIfInBounds_toArray, List.set_cons_zero, List.set_cons_succ]
              refine wpAnyH_ready (rs := [7]) (by kernel_rfl) (by simp) ?_
              refine AllReadyH.cons rfl (fun K hK => ?_) (AllReadyH.nil)
              have xx0 := xx.cell 0 rfl
              have xxz0 := xx.frozen 0
              have xx1 := xx.cell 1 rfl
              have xxz1 := xx.frozen 1
              have xx2 := xx.cell 2 rfl
              have xxz2 := xx.frozen 2
              have xx3 := xx.cell 3 rfl
              have xxz3 := xx.frozen 3
              have xx4 := xx.cell 4 rfl
              have xxz4 := xx.frozen 4
              have xx5 := xx.cell 5 rfl
              have xxz5 := xx.frozen 5
              have xx6 := xx.cell 6 rfl
              have xxz6 := xx.frozen 6
              have xx7 := xx.cell 7 rfl
              have xxz7 := xx.frozen 7
              have xx8 := xx.cell 8 rfl
              have xxz8 := xx.frozen 8
              go_simp
              try go_wp2_with fail
              clear xx0 xxz0 xx1 xxz1 xx2 xxz2 xx3 xxz3 xx4 xxz4 xx5 xxz5 xx6 xxz6 xx7 xxz7 xx8 xxz8
              have xy := Box.new 33 V4 [.string ⟨#[]⟩, .string ⟨#[]⟩, .int .i64 0, .int .i64 0, .int .i64 0, .int .i64 0, .int .u64 0, .bool false, .int .u64 0]
              have ne_xy_xx : V4.heap.size ≠ V2.heap.size := Nat.ne_of_gt xx.lt
              have le_xy : W.heap.size ≤ V4.heap.size := hB.size
              replace xx := xx.alloc (.cells #[.string ⟨#[]⟩, .string ⟨#[]⟩, .int .i64 0, .int .i64 0, .int .i64 0, .int .i64 0, .int .u64 0, .bool false, .int .u64 0] 33)
              replace hB := hB.alloc hB.size (.cells #[.string ⟨#[]⟩, .string ⟨#[]⟩, .int .i64 0, .int .i64 0, .int .i64 0, .int .i64 0, .int .u64 0, .bool false, .int .u64 0] 33)
              have xx0 := xx.cell 0 rfl
              have xxz0 := xx.frozen 0
              have xx1 := xx.cell 1 rfl
              have xxz1 := xx.frozen 1
              have xx2 := xx.cell 2 rfl
              have xxz2 := xx.frozen 2
              have xx3 := xx.cell 3 rfl
              have xxz3 := xx.frozen 3
              have xx4 := xx.cell 4 rfl
              have xxz4 := xx.frozen 4
              have xx5 := xx.cell 5 rfl
              have xxz5 := xx.frozen 5
              have xx6 := xx.cell 6 rfl
              have xxz6 := xx.frozen 6
              have xx7 := xx.cell 7 rfl
              have xxz7 := xx.frozen 7
              have xx8 := xx.cell 8 rfl
              have xxz8 := xx.frozen 8
              have xy0 := xy.cell 0 rfl
              have xyz0 := xy.frozen 0
              have xy1 := xy.cell 1 rfl
              have xyz1 := xy.frozen 1
              have xy2 := xy.cell 2 rfl
              have xyz2 := xy.frozen 2
              have xy3 := xy.cell 3 rfl
              have xyz3 := xy.frozen 3
              have xy4 := xy.cell 4 rfl
              have xyz4 := xy.frozen 4
              have xy5 := xy.cell 5 rfl
              have xyz5 := xy.frozen 5
              have xy6 := xy.cell 6 rfl
              have xyz6 := xy.frozen 6
              have xy7 := xy.cell 7 rfl
              have xyz7 := xy.frozen 7
              have xy8 := xy.cell 8 rfl
              have xyz8 := xy.frozen 8
              generalize (V4.alloc (.cells #[.string ⟨#[]⟩, .string ⟨#[]⟩, .int .i64 0, .int .i64 0, .int .i64 0, .int .i64 0, .int .u64 0, .bool false, .int .u64 0] 33)) = V5 at *
              generalize V4.heap.size = g_xy at *
              clear xx0 xxz0 xx1 xxz1 xx2 xxz2 xx3 xxz3 xx4 xxz4 xx5 xxz5 xx6 xxz6 xx7 xxz7 xx8 xxz8 xy0 xyz0 xy1 xyz1 xy2 xyz2 xy3 xyz3 xy4 xyz4 xy5 xyz5 xy6 xyz6 xy7 xyz7 xy8 xyz8
              clear hHeld
              refine hK.out _ _ ?_ (fun hHeld => ?_)
              · exact ⟨xx.cell 0 rfl, xx.cell 1 rfl, xx.cell 2 rfl, xx.cell 3 rfl, xx.cell 4 rfl, xx.cell 5 rfl, xx.cell 6 rfl, xx.cell 7 rfl, xx.cell 8 rfl, HC.out _ hB⟩
              clear hK K
              try simp only [Act.put, List.getElem_toArray, List.getElem_cons_zero, List.getElem_cons_succ, List.setIfInBounds_toArray, List.set_cons_zero, List.set_cons_succ]
              refine wpAnyH_ready (rs := [8]) (by kernel_rfl) (by simp) ?_
              refine AllReadyH.cons rfl (fun K hK => ?_) (AllReadyH.nil)
              have xx0 := xx.cell 0 rfl
              have xxz0 := xx.frozen 0
              have xx1 := xx.cell 1 rfl
              have xxz1 := xx.frozen 1
              have xx2 := xx.cell 2 rfl
              have xxz2 := xx.frozen 2
              have xx3 := xx.cell 3 rfl
              have xxz3 := xx.frozen 3
              have xx4 := xx.cell 4 rfl
              have xxz4 := xx.frozen 4
              have xx5 := xx.cell 5 rfl
              have xxz5 := xx.frozen 5
              have xx6 := xx.cell 6 rfl
              have xxz6 := xx.frozen 6
              have xx7 := xx.cell 7 rfl
              have xxz7 := xx.frozen 7
              have xx8 := xx.cell 8 rfl
              have xxz8 := xx.frozen 8
              have xy0 := xy.cell 0 rfl
              have xyz0 := xy.frozen 0
              have xy1 := xy.cell 1 rfl
              have xyz1 := xy.frozen 1
              have xy2 := xy.cell 2 rfl
              have xyz2 := xy.frozen 2
              have xy3 := xy.cell 3 rfl
              have xyz3 := xy.frozen 3
              have xy4 := xy.cell 4 rfl
              have xyz4 := xy.frozen 4
              have xy5 := xy.cell 5 rfl
              have xyz5 := xy.frozen 5
              have xy6 := xy.cell 6 rfl
              have xyz6 := xy.frozen 6
              have xy7 := xy.cell 7 rfl
              have xyz7 := xy.frozen 7
              have xy8 := xy.cell 8 rfl
              have xyz8 := xy.frozen 8
              go_simp
              try go_wp2_with fail
              clear xx0 xxz0 xx1 xxz1 xx2 xxz2 xx3 xxz3 xx4 xxz4 xx5 xxz5 xx6 xxz6 xx7 xxz7 xx8 xxz8 xy0 xyz0 xy1 xyz1 xy2 xyz2 xy3 xyz3 xy4 xyz4 xy5 xyz5 xy6 xyz6 xy7 xyz7 xy8 xyz8
              replace xx : Box 33 (((((((((V5.setCell ⟨g_xy, 0, none⟩ (.string yf.b0)).setCell ⟨g_xy, 1, none⟩ (.string yf.b1)).setCell ⟨g_xy, 2, none⟩ (.int .i64 yf.e0)).setCell ⟨g_xy, 3, none⟩ (.int .i64 yf.e1)).setCell ⟨g_xy, 4, none⟩ (.int .i64 yf.lim)).setCell ⟨g_xy, 5, none⟩ (.int .i64 ((j : Int) + 1))).setCell ⟨g_xy, 6, none⟩ (.int .u64 (d : Int))).setCell ⟨g_xy, 7, none⟩ (.bool yb)).setCell ⟨g_xy, 8, none⟩ (.int .u64 (yt : Int))) (V2.heap.size) [.string x.f.b0, .string x.f.b1, .int .i64 x.f.e0, .int .i64 x.f.e1, .int .i64 x.f.lim, .int .i64 x.acked, .int .u64 (x.last : Int), .bool x.flying, .int .u64 (x.flight : Int)] := (((((((((xx.other ne_xy_xx 0 (.string yf.b0)).other ne_xy_xx 1 (.string yf.b1)).other ne_xy_xx 2 (.int .i64 yf.e0)).other ne_xy_xx 3 (.int .i64 yf.e1)).other ne_xy_xx 4 (.int .i64 yf.lim)).other ne_xy_xx 5 (.int .i64 ((j : Int) + 1))).other ne_xy_xx 6 (.int .u64 (d : Int))).other ne_xy_xx 7 (.bool yb)).other ne_xy_xx 8 (.int .u64 (yt : Int)))
              replace xy : Box 33 (((((((((V5.setCell ⟨g_xy, 0, none⟩ (.string yf.b0)).setCell ⟨g_xy, 1, none⟩ (.string yf.b1)).setCell ⟨g_xy, 2, none⟩ (.int .i64 yf.e0)).setCell ⟨g_xy, 3, none⟩ (.int .i64 yf.e1)).setCell ⟨g_xy, 4, none⟩ (.int .i64 yf.lim)).setCell ⟨g_xy, 5, none⟩ (.int .i64 ((j : Int) + 1))).setCell ⟨g_xy, 6, none⟩ (.int .u64 (d : Int))).setCell ⟨g_xy, 7, none⟩ (.bool yb)).setCell ⟨g_xy, 8, none⟩ (.int .u64 (yt : Int))) (g_xy) [.string yf.b0, .string yf.b1, .int .i64 yf.e0, .int .i64 yf.e1, .int .i64 yf.lim, .int .i64 ((j : Int) + 1), .int .u64 (d : Int), .bool yb, .int .u64 (yt : Int)] := (((((((((xy.set 0 (.string yf.b0)).set 1 (.string yf.b1)).set 2 (.int .i64 yf.e0)).set 3 (.int .i64 yf.e1)).set 4 (.int .i64 yf.lim)).set 5 (.int .i64 ((j : Int) + 1))).set 6 (.int .u64 (d : Int))).set 7 (.bool yb)).set 8 (.int .u64 (yt : Int)))
              replace hB : Below W.heap.size W (((((((((V5.setCell ⟨g_xy, 0, none⟩ (.string yf.b0)).setCell ⟨g_xy, 1, none⟩ (.string yf.b1)).setCell ⟨g_xy, 2, none⟩ (.int .i64 yf.e0)).setCell ⟨g_xy, 3, none⟩ (.int .i64 yf.e1)).setCell ⟨g_xy, 4, none⟩ (.int .i64 yf.lim)).setCell ⟨g_xy, 5, none⟩ (.int .i64 ((j : Int) + 1))).setCell ⟨g_xy, 6, none⟩ (.int .u64 (d : Int))).setCell ⟨g_xy, 7, none⟩ (.bool yb)).setCell ⟨g_xy, 8, none⟩ (.int .u64 (yt : Int))) := (((((((((hB.setCell le_xy _).setCell le_xy _).setCell le_xy _).setCell le_xy _).setCell le_xy _).setCell le_xy _).setCell le_xy _).setCell le_xy _).setCell le_xy _)
              generalize (((((((((V5.setCell ⟨g_xy, 0, none⟩ (.string yf.b0)).setCell ⟨g_xy, 1, none⟩ (.string yf.b1)).setCell ⟨g_xy, 2, none⟩ (.int .i64 yf.e0)).setCell ⟨g_xy, 3, none⟩ (.int .i64 yf.e1)).setCell ⟨g_xy, 4, none⟩ (.int .i64 yf.lim)).setCell ⟨g_xy, 5, none⟩ (.int .i64 ((j : Int) + 1))).setCell ⟨g_xy, 6, none⟩ (.int .u64 (d : Int))).setCell ⟨g_xy, 7, none⟩ (.bool yb)).setCell ⟨g_xy, 8, none⟩ (.int .u64 (yt : Int))) = V6 at *
              clear hHeld
              refine hK.out _ _ ?_ (fun hHeld => ?_)
              · exact ⟨xx.cell 0 rfl, xx.cell 1 rfl, xx.cell 2 rfl, xx.cell 3 rfl, xx.cell 4 rfl, xx.cell 5 rfl, xx.cell 6 rfl, xx.cell 7 rfl, xx.cell 8 rfl, HC.out _ hB⟩
              clear hK K
              try simp only [Act.put, List.getElem_toArray, List.getElem_cons_zero, List.getElem_cons_succ, List.setIfInBounds_toArray, List.set_cons_zero, List.set_cons_succ]
              refine wpAnyH_done (by kernel_rfl) ?_ _
              clear hHeld
              have xx0 := xx.cell 0 rfl
              have xxz0 := xx.frozen 0
              have xx1 := xx.cell 1 rfl
              have xxz1 := xx.frozen 1
              have xx2 := xx.cell 2 rfl
              have xxz2 := xx.frozen 2
              have xx3 := xx.cell 3 rfl
              have xxz3 := xx.frozen 3
              have xx4 := xx.cell 4 rfl
              have xxz4 := xx.frozen 4
              have xx5 := xx.cell 5 rfl
              have xxz5 := xx.frozen 5
              have xx6 := xx.cell 6 rfl
              have xxz6 := xx.frozen 6
              have xx7 := xx.cell 7 rfl
              have xxz7 := xx.frozen 7
              have xx8 := xx.cell 8 rfl
              have xxz8 := xx.frozen 8
              have xy0 := xy.cell 0 rfl
              have xyz0 := xy.frozen 0
              have xy1 := xy.cell 1 rfl
              have xyz1 := xy.frozen 1
              have xy2 := xy.cell 2 rfl
              have xyz2 := xy.frozen 2
              have xy3 := xy.cell 3 rfl
              have xyz3 := xy.frozen 3
              have xy4 := xy.cell 4 rfl
              have xyz4 := xy.frozen 4
              have xy5 := xy.cell 5 rfl
              have xyz5 := xy.frozen 5
              have xy6 := xy.cell 6 rfl
              have xyz6 := xy.frozen 6
              have xy7 := xy.cell 7 rfl
              have xyz7 := xy.frozen 7
              have xy8 := xy.cell 8 rfl
              have xyz8 := xy.frozen 8
              go_wp2_with fail
              clear xx0 xxz0 xx1 xxz1 xx2 xxz2 xx3 xxz3 xx4 xxz4 xx5 xxz5 xx6 xxz6 xx7 xxz7 xx8 xxz8 xy0 xyz0 xy1 xyz1 xy2 xyz2 xy3 xyz3 xy4 xyz4 xy5 xyz5 xy6 xyz6 xy7 xyz7 xy8 xyz8
              replace hB := hB.drew
              replace xx := xx.drew
              replace xy := xy.drew
              refine wp_region_held_drew (S := fun w' => w'.cell? ⟨g_xy, 0, none⟩ = some (.string yf.b0) ∧ w'.cell? ⟨g_xy, 1, none⟩ = some (.string yf.b1) ∧ w'.cell? ⟨g_xy, 2, none⟩ = some (.int .i64 yf.e0) ∧ w'.cell? ⟨g_xy, 3, none⟩ = some (.int .i64 yf.e1) ∧ w'.cell? ⟨g_xy, 4, none⟩ = some (.int .i64 yf.lim) ∧ w'.cell? ⟨g_xy, 5, none⟩ = some (.int .i64 ((j : Int) + 1)) ∧ w'.cell? ⟨g_xy, 6, none⟩ = some (.int .u64 (d : Int)) ∧ w'.cell? ⟨g_xy, 7, none⟩ = some (.bool yb) ∧ w'.cell? ⟨g_xy, 8, none⟩ = some (.int .u64 (yt : Int)) ∧ w'.cell? ⟨g, off + j, none⟩ = some (.int .u64 (d : Int))) (by kernel_rfl) ?_ (fun hHeld => ?_)
              · exact ⟨xy.cell 0 rfl, xy.cell 1 rfl, xy.cell 2 rfl, xy.cell 3 rfl, xy.cell 4 rfl, xy.cell 5 rfl, xy.cell 6 rfl, xy.cell 7 rfl, xy.cell 8 rfl, HC.out _ hB⟩
              generalize V6.drew = V7 at *
              refine wpAnyH_take (i := 0) (v := ?_) rfl (by kernel_rfl) (by kernel_rfl) (by kernel_rfl) (fun _ _ _ h => h) (Or.inl ⟨by rfl, ?_⟩) (by assumption) ?_
              rotate_left
              · intro w hSw; (try dsimp only at hSw); go_simp; try with_reducible rfl
              try simp only [Act.put, List.getElem_toArray, List.getElem_cons_zero, List.getElem_cons_succ, List.setIfInBounds_toArray, List.set_cons_zero, List.set_cons_succ]
              refine wpAnyH_take (i := 1) (v := ?_) rfl (by kernel_rfl) (by kernel_rfl) (by kernel_rfl) (fun _ _ _ h => h) (Or.inl ⟨by rfl, ?_⟩) (by assumption) ?_
              rotate_left
              · intro w hSw; (try dsimp only at hSw); go_simp; try with_reducible rfl
              try simp only [Act.put, List.getElem_toArray, List.getElem_cons_zero, List.getElem_cons_succ, List.setIfInBounds_toArray, List.set_cons_zero, List.set_cons_succ]
              refine wpAnyH_take (i := 2) (v := ?_) rfl (by kernel_rfl) (by kernel_rfl) (by kernel_rfl) (fun _ _ _ h => h) (Or.inl ⟨by rfl, ?_⟩) (by assumption) ?_
              rotate_left
              · intro w hSw; (try dsimp only at hSw); go_simp; try with_reducible rfl
              try simp only [Act.put, List.getElem_toArray, List.getElem_cons_zero, List.getElem_cons_succ, List.setIfInBounds_toArray, List.set_cons_zero, List.set_cons_succ]
              refine wpAnyH_take (i := 3) (v := ?_) rfl (by kernel_rfl) (by kernel_rfl) (by kernel_rfl) (fun _ _ _ h => h) (Or.inl ⟨by rfl, ?_⟩) (by assumption) ?_
              rotate_left
              · intro w hSw; (try dsimp only at hSw); go_simp; try with_reducible rfl
              try simp only [Act.put, List.getElem_toArray, List.getElem_cons_zero, List.getElem_cons_succ, List.setIfInBounds_toArray, List.set_cons_zero, List.set_cons_succ]
              refine wpAnyH_take (i := 4) (v := ?_) rfl (by kernel_rfl) (by kernel_rfl) (by kernel_rfl) (fun _ _ _ h => h) (Or.inl ⟨by rfl, ?_⟩) (by assumption) ?_
              rotate_left
              · intro w hSw; (try dsimp only at hSw); go_simp; try with_reducible rfl
              try simp only [Act.put, List.getElem_toArray, List.getElem_cons_zero, List.getElem_cons_succ, List.setIfInBounds_toArray, List.set_cons_zero, List.set_cons_succ]
              refine wpAnyH_take (i := 5) (v := ?_) rfl (by kernel_rfl) (by kernel_rfl) (by kernel_rfl) (fun _ _ _ h => h) (Or.inl ⟨by rfl, ?_⟩) (by assumption) ?_
              rotate_left
              · intro w hSw; (try dsimp only at hSw); go_simp; try with_reducible rfl
              try simp only [Act.put, List.getElem_toArray, List.getElem_cons_zero, List.getElem_cons_succ, List.setIfInBounds_toArray, List.set_cons_zero, List.set_cons_succ]
              refine wpAnyH_take (i := 6) (v := ?_) rfl (by kernel_rfl) (by kernel_rfl) (by kernel_rfl) (fun _ _ _ h => h) (Or.inl ⟨by rfl, ?_⟩) (by assumption) ?_
              rotate_left
              · intro w hSw; (try dsimp only at hSw); go_simp; try with_reducible rfl
              try simp only [Act.put, List.getElem_toArray, List.getElem_cons_zero, List.getElem_cons_succ, List.setIfInBounds_toArray, List.set_cons_zero, List.set_cons_succ]
              refine wpAnyH_take (i := 7) (v := ?_) rfl (by kernel_rfl) (by kernel_rfl) (by kernel_rfl) (fun _ _ _ h => h) (Or.inl ⟨by rfl, ?_⟩) (by assumption) ?_
              rotate_left
              · intro w hSw; (try dsimp only at hSw); go_simp; try with_reducible rfl
              try simp only [Act.put, List.getElem_toArray, List.getElem_cons_zero, List.getElem_cons_succ, List.setIfInBounds_toArray, List.set_cons_zero, List.set_cons_succ]
              refine wpAnyH_take (i := 8) (v := ?_) rfl (by kernel_rfl) (by kernel_rfl) (by kernel_rfl) (fun _ _ _ h => h) (Or.inl ⟨by rfl, ?_⟩) (by assumption) ?_
              rotate_left
              · intro w hSw; (try dsimp only at hSw); go_simp; try with_reducible rfl
              try simp only [Act.put, List.getElem_toArray, List.getElem_cons_zero, List.getElem_cons_succ, List.setIfInBounds_toArray, List.set_cons_zero, List.set_cons_succ]
              refine wpAnyH_take (i := 9) (v := ?_) rfl (by kernel_rfl) (by kernel_rfl) (by kernel_rfl) (fun _ _ _ h => h) (Or.inl ⟨by rfl, ?_⟩) (by assumption) ?_
              rotate_left
              · intro w hSw; (try dsimp only at hSw); go_simp; try with_reducible rfl
              try simp only [Act.put, List.getElem_toArray, List.getElem_cons_zero, List.getElem_cons_succ, List.setIfInBounds_toArray, List.set_cons_zero, List.set_cons_succ]
              refine wpAnyH_take (i := 10) (v := ?_) rfl (by kernel_rfl) (by kernel_rfl) (by kernel_rfl) (fun _ _ _ h => h) (Or.inl ⟨by rfl, ?_⟩) (by assumption) ?_
              rotate_left
              · intro w hSw; (try dsimp only at hSw); go_simp; try with_reducible rfl
              try simp only [Act.put, List.getElem_toArray, List.getElem_cons_zero, List.getElem_cons_succ, List.setIfInBounds_toArray, List.set_cons_zero, List.set_cons_succ]
              refine wpAnyH_take (i := 11) (v := ?_) rfl (by kernel_rfl) (by kernel_rfl) (by kernel_rfl) (fun _ _ _ h => h) (Or.inl ⟨by rfl, ?_⟩) (by assumption) ?_
              rotate_left
              · intro w hSw; (try dsimp only at hSw); go_simp; try with_reducible rfl
              try simp only [Act.put, List.getElem_toArray, List.getElem_cons_zero, List.getElem_cons_succ, List.setIfInBounds_toArray, List.set_cons_zero, List.set_cons_succ]
              refine wpAnyH_take (i := 12) (v := ?_) rfl (by kernel_rfl) (by kernel_rfl) (by kernel_rfl) (fun _ _ _ h => h) (Or.inl ⟨by rfl, ?_⟩) (by assumption) ?_
              rotate_left
              · intro w hSw; (try dsimp only at hSw); go_simp; try with_reducible rfl
              try simp only [Act.put, List.getElem_toArray, List.getElem_cons_zero, List.getElem_cons_succ, List.setIfInBounds_toArray, List.set_cons_zero, List.set_cons_succ]
              refine wpAnyH_take (i := 13) (v := ?_) rfl (by kernel_rfl) (by kernel_rfl) (by kernel_rfl) (fun _ _ _ h => h) (Or.inl ⟨by rfl, ?_⟩) (by assumption) ?_
              rotate_left
              · intro w hSw; (try dsimp only at hSw); go_simp; try with_reducible rfl
              try simp only [Act.put, List.getElem_toArray, List.getElem_cons_zero, List.getElem_cons_succ, List.setIfInBounds_toArray, List.set_cons_zero, List.set_cons_succ]
              refine wpAnyH_take (i := 14) (v := ?_) rfl (by kernel_rfl) (by kernel_rfl) (by kernel_rfl) (fun _ _ _ h => h) (Or.inl ⟨by rfl, ?_⟩) (by assumption) ?_
              rotate_left
              · intro w hSw; (try dsimp only at hSw); go_simp; try with_reducible rfl
              try simp only [Act.put, List.getElem_toArray, List.getElem_cons_zero, List.getElem_cons_succ, List.setIfInBounds_toArray, List.set_cons_zero, List.set_cons_succ]
              refine wpAnyH_take (i := 15) (v := ?_) rfl (by kernel_rfl) (by kernel_rfl) (by kernel_rfl) (fun _ _ _ h => h) (Or.inl ⟨by rfl, ?_⟩) (by assumption) ?_
              rotate_left
              · intro w hSw; (try dsimp only at hSw); go_simp; try with_reducible rfl
              try simp only [Act.put, List.getElem_toArray, List.getElem_cons_zero, List.getElem_cons_succ, List.setIfInBounds_toArray, List.set_cons_zero, List.set_cons_succ]
              refine wpAnyH_take (i := 16) (v := ?_) rfl (by kernel_rfl) (by kernel_rfl) (by kernel_rfl) (fun _ _ _ h => h) (Or.inl ⟨by rfl, ?_⟩) (by assumption) ?_
              rotate_left
              · intro w hSw; (try dsimp only at hSw); go_simp; try with_reducible rfl
              try simp only [Act.put, List.getElem_toArray, List.getElem_cons_zero, List.getElem_cons_succ, List.setIfInBounds_toArray, List.set_cons_zero, List.set_cons_succ]
              refine wpAnyH_take (i := 18) (v := ?_) rfl (by kernel_rfl) (by kernel_rfl) (by kernel_rfl) (fun _ _ _ h => h) (Or.inl ⟨by rfl, ?_⟩) (by assumption) ?_
              rotate_left
              · intro w hSw; (try dsimp only at hSw); go_simp; try with_reducible rfl
              try simp only [Act.put, List.getElem_toArray, List.getElem_cons_zero, List.getElem_cons_succ, List.setIfInBounds_toArray, List.set_cons_zero, List.set_cons_succ]
              refine wpAnyH_take (i := 19) (v := ?_) rfl (by kernel_rfl) (by kernel_rfl) (by kernel_rfl) (fun _ _ _ h => h) (Or.inl ⟨by rfl, ?_⟩) (by assumption) ?_
              rotate_left
              · intro w hSw; (try dsimp only at hSw); go_simp; try with_reducible rfl
              try simp only [Act.put, List.getElem_toArray, List.getElem_cons_zero, List.getElem_cons_succ, List.setIfInBounds_toArray, List.set_cons_zero, List.set_cons_succ]
              refine wpAnyH_take (i := 20) (v := ?_) rfl (by kernel_rfl) (by kernel_rfl) (by kernel_rfl) (fun _ _ _ h => h) (Or.inl ⟨by rfl, ?_⟩) (by assumption) ?_
              rotate_left
              · intro w hSw; (try dsimp only at hSw); go_simp; try with_reducible rfl
              try simp only [Act.put, List.getElem_toArray, List.getElem_cons_zero, List.getElem_cons_succ, List.setIfInBounds_toArray, List.set_cons_zero, List.set_cons_succ]
              refine wpAnyH_take (i := 21) (v := ?_) rfl (by kernel_rfl) (by kernel_rfl) (by kernel_rfl) (fun _ _ _ h => h) (Or.inl ⟨by rfl, ?_⟩) (by assumption) ?_
              rotate_left
              · intro w hSw; (try dsimp only at hSw); go_simp; try with_reducible rfl
              try simp only [Act.put, List.getElem_toArray, List.getElem_cons_zero, List.getElem_cons_succ, List.setIfInBounds_toArray, List.set_cons_zero, List.set_cons_succ]
              refine wpAnyH_ready (rs := [17]) (by kernel_rfl) (by simp) ?_
              refine AllReadyH.cons rfl (fun K hK => ?_) AllReadyH.nil
              have xx0 := xx.cell 0 rfl
              have xxz0 := xx.frozen 0
              have xx1 := xx.cell 1 rfl
              have xxz1 := xx.frozen 1
              have xx2 := xx.cell 2 rfl
              have xxz2 := xx.frozen 2
              have xx3 := xx.cell 3 rfl
              have xxz3 := xx.frozen 3
              have xx4 := xx.cell 4 rfl
              have xxz4 := xx.frozen 4
              have xx5 := xx.cell 5 rfl
              have xxz5 := xx.frozen 5
              have xx6 := xx.cell 6 rfl
              have xxz6 := xx.frozen 6
              have xx7 := xx.cell 7 rfl
              have xxz7 := xx.frozen 7
              have xx8 := xx.cell 8 rfl
              have xxz8 := xx.frozen 8
              have xy0 := xy.cell 0 rfl
              have xyz0 := xy.frozen 0
              have xy1 := xy.cell 1 rfl
              have xyz1 := xy.frozen 1
              have xy2 := xy.cell 2 rfl
              have xyz2 := xy.frozen 2
              have xy3 := xy.cell 3 rfl
              have xyz3 := xy.frozen 3
              have xy4 := xy.cell 4 rfl
              have xyz4 := xy.frozen 4
              have xy5 := xy.cell 5 rfl
              have xyz5 := xy.frozen 5
              have xy6 := xy.cell 6 rfl
              have xyz6 := xy.frozen 6
              have xy7 := xy.cell 7 rfl
              have xyz7 := xy.frozen 7
              have xy8 := xy.cell 8 rfl
              have xyz8 := xy.frozen 8
              go_simp
              refine (TW.out _).mono ?_
              rintro e V8 ⟨rfl, hk⟩
              clear xx0 xxz0 xx1 xxz1 xx2 xxz2 xx3 xxz3 xx4 xxz4 xx5 xxz5 xx6 xxz6 xx7 xxz7 xx8 xxz8 xy0 xyz0 xy1 xyz1 xy2 xyz2 xy3 xyz3 xy4 xyz4 xy5 xyz5 xy6 xyz6 xy7 xyz7 xy8 xyz8
              replace hB := below_seq hB hk
              replace xx := xx.seq hk
              replace xy := xy.seq hk
              clear hk
              have xx0 := xx.cell 0 rfl
              have xxz0 := xx.frozen 0
              have xx1 := xx.cell 1 rfl
              have xxz1 := xx.frozen 1
              have xx2 := xx.cell 2 rfl
              have xxz2 := xx.frozen 2
              have xx3 := xx.cell 3 rfl
              have xxz3 := xx.frozen 3
              have xx4 := xx.cell 4 rfl
              have xxz4 := xx.frozen 4
              have xx5 := xx.cell 5 rfl
              have xxz5 := xx.frozen 5
              have xx6 := xx.cell 6 rfl
              have xxz6 := xx.frozen 6
              have xx7 := xx.cell 7 rfl
              have xxz7 := xx.frozen 7
              have xx8 := xx.cell 8 rfl
              have xxz8 := xx.frozen 8
              have xy0 := xy.cell 0 rfl
              have xyz0 := xy.frozen 0
              have xy1 := xy.cell 1 rfl
              have xyz1 := xy.frozen 1
              have xy2 := xy.cell 2 rfl
              have xyz2 := xy.frozen 2
              have xy3 := xy.cell 3 rfl
              have xyz3 := xy.frozen 3
              have xy4 := xy.cell 4 rfl
              have xyz4 := xy.frozen 4
              have xy5 := xy.cell 5 rfl
              have xyz5 := xy.frozen 5
              have xy6 := xy.cell 6 rfl
              have xyz6 := xy.frozen 6
              have xy7 := xy.cell 7 rfl
              have xyz7 := xy.frozen 7
              have xy8 := xy.cell 8 rfl
              have xyz8 := xy.frozen 8
              try go_wp2_with fail
              clear xx0 xxz0 xx1 xxz1 xx2 xxz2 xx3 xxz3 xx4 xxz4 xx5 xxz5 xx6 xxz6 xx7 xxz7 xx8 xxz8 xy0 xyz0 xy1 xyz1 xy2 xyz2 xy3 xyz3 xy4 xyz4 xy5 xyz5 xy6 xyz6 xy7 xyz7 xy8 xyz8
              clear hHeld
              refine hK.out _ _ ?_ (fun hHeld => ?_)
              · exact ⟨xy.cell 0 rfl, xy.cell 1 rfl, xy.cell 2 rfl, xy.cell 3 rfl, xy.cell 4 rfl, xy.cell 5 rfl, xy.cell 6 rfl, xy.cell 7 rfl, xy.cell 8 rfl, HC.out _ hB⟩
              clear hK K
              try simp only [Act.put, List.getElem_toArray, List.getElem_cons_zero, List.getElem_cons_succ, List.setIfInBounds_toArray, List.set_cons_zero, List.set_cons_succ]
              refine wpAnyH_take (i := 22) (v := ?_) rfl (by kernel_rfl) (by kernel_rfl) (by kernel_rfl) (fun _ _ _ h => h) (Or.inl ⟨by rfl, ?_⟩) (by assumption) ?_
              rotate_left
              · intro w hSw; (try dsimp only at hSw); go_simp; try with_reducible rfl
              try simp only [Act.put, List.getElem_toArray, List.getElem_cons_zero, List.getElem_cons_succ, List.setIfInBounds_toArray, List.set_cons_zero, List.set_cons_succ]
              refine wpAnyH_take (i := 23) (v := ?_) rfl (by kernel_rfl) (by kernel_rfl) (by kernel_rfl) (fun _ _ _ h => h) (Or.inl ⟨by rfl, ?_⟩) (by assumption) ?_
              rotate_left
              · intro w hSw; (try dsimp only at hSw); go_simp; try with_reducible rfl
              try simp only [Act.put, List.getElem_toArray, List.getElem_cons_zero, List.getElem_cons_succ, List.setIfInBounds_toArray, List.set_cons_zero, List.set_cons_succ]
              refine wpAnyH_done (by kernel_rfl) ?_ _
              clear hHeld
              have xx0 := xx.cell 0 rfl
              have xxz0 := xx.frozen 0
              have xx1 := xx.cell 1 rfl
              have xxz1 := xx.frozen 1
              have xx2 := xx.cell 2 rfl
              have xxz2 := xx.frozen 2
              have xx3 := xx.cell 3 rfl
              have xxz3 := xx.frozen 3
              have xx4 := xx.cell 4 rfl
              have xxz4 := xx.frozen 4
              have xx5 := xx.cell 5 rfl
              have xxz5 := xx.frozen 5
              have xx6 := xx.cell 6 rfl
              have xxz6 := xx.frozen 6
              have xx7 := xx.cell 7 rfl
              have xxz7 := xx.frozen 7
              have xx8 := xx.cell 8 rfl
              have xxz8 := xx.frozen 8
              have xy0 := xy.cell 0 rfl
              have xyz0 := xy.frozen 0
              have xy1 := xy.cell 1 rfl
              have xyz1 := xy.frozen 1
              have xy2 := xy.cell 2 rfl
              have xyz2 := xy.frozen 2
              have xy3 := xy.cell 3 rfl
              have xyz3 := xy.frozen 3
              have xy4 := xy.cell 4 rfl
              have xyz4 := xy.frozen 4
              have xy5 := xy.cell 5 rfl
              have xyz5 := xy.frozen 5
              have xy6 := xy.cell 6 rfl
              have xyz6 := xy.frozen 6
              have xy7 := xy.cell 7 rfl
              have xyz7 := xy.frozen 7
              have xy8 := xy.cell 8 rfl
              have xyz8 := xy.frozen 8
              go_wp2
              clear xx0 xxz0 xx1 xxz1 xx2 xxz2 xx3 xxz3 xx4 xxz4 xx5 xxz5 xx6 xxz6 xx7 xxz7 xx8 xxz8 xy0 xyz0 xy1 xyz1 xy2 xyz2 xy3 xyz3 xy4 xyz4 xy5 xyz5 xy6 xyz6 xy7 xyz7 xy8 xyz8
              replace xy : Box 33 (((((((((V8.setCell ⟨V2.heap.size, 0, none⟩ (.string yf.b0)).setCell ⟨V2.heap.size, 1, none⟩ (.string yf.b1)).setCell ⟨V2.heap.size, 2, none⟩ (.int .i64 yf.e0)).setCell ⟨V2.heap.size, 3, none⟩ (.int .i64 yf.e1)).setCell ⟨V2.heap.size, 4, none⟩ (.int .i64 yf.lim)).setCell ⟨V2.heap.size, 5, none⟩ (.int .i64 ((j : Int) + 1))).setCell ⟨V2.heap.size, 6, none⟩ (.int .u64 (d : Int))).setCell ⟨V2.heap.size, 7, none⟩ (.bool yb)).setCell ⟨V2.heap.size, 8, none⟩ (.int .u64 (yt : Int))) (g_xy) [.string yf.b0, .string yf.b1, .int .i64 yf.e0, .int .i64 yf.e1, .int .i64 yf.lim, .int .i64 ((j : Int) + 1), .int .u64 (d : Int), .bool yb, .int .u64 (yt : Int)] := (((((((((xy.other (Ne.symm ne_xy_xx) 0 (.string yf.b0)).other (Ne.symm ne_xy_xx) 1 (.string yf.b1)).other (Ne.symm ne_xy_xx) 2 (.int .i64 yf.e0)).other (Ne.symm ne_xy_xx) 3 (.int .i64 yf.e1)).other (Ne.symm ne_xy_xx) 4 (.int .i64 yf.lim)).other (Ne.symm ne_xy_xx) 5 (.int .i64 ((j : Int) + 1))).other (Ne.symm ne_xy_xx) 6 (.int .u64 (d : Int))).other (Ne.symm ne_xy_xx) 7 (.bool yb)).other (Ne.symm ne_xy_xx) 8 (.int .u64 (yt : Int)))
              replace xx : Box 33 (((((((((V8.setCell ⟨V2.heap.size, 0, none⟩ (.string yf.b0)).setCell ⟨V2.heap.size, 1, none⟩ (.string yf.b1)).setCell ⟨V2.heap.size, 2, none⟩ (.int .i64 yf.e0)).setCell ⟨V2.heap.size, 3, none⟩ (.int .i64 yf.e1)).setCell ⟨V2.heap.size, 4, none⟩ (.int .i64 yf.lim)).setCell ⟨V2.heap.size, 5, none⟩ (.int .i64 ((j : Int) + 1))).setCell ⟨V2.heap.size, 6, none⟩ (.int .u64 (d : Int))).setCell ⟨V2.heap.size, 7, none⟩ (.bool yb)).setCell ⟨V2.heap.size, 8, none⟩ (.int .u64 (yt : Int))) (V2.heap.size) [.string yf.b0, .string yf.b1, .int .i64 yf.e0, .int .i64 yf.e1, .int .i64 yf.lim, .int .i64 ((j : Int) + 1), .int .u64 (d : Int), .bool yb, .int .u64 (yt : Int)] := (((((((((xx.set 0 (.string yf.b0)).set 1 (.string yf.b1)).set 2 (.int .i64 yf.e0)).set 3 (.int .i64 yf.e1)).set 4 (.int .i64 yf.lim)).set 5 (.int .i64 ((j : Int) + 1))).set 6 (.int .u64 (d : Int))).set 7 (.bool yb)).set 8 (.int .u64 (yt : Int)))
              replace hB : Below W.heap.size W (((((((((V8.setCell ⟨V2.heap.size, 0, none⟩ (.string yf.b0)).setCell ⟨V2.heap.size, 1, none⟩ (.string yf.b1)).setCell ⟨V2.heap.size, 2, none⟩ (.int .i64 yf.e0)).setCell ⟨V2.heap.size, 3, none⟩ (.int .i64 yf.e1)).setCell ⟨V2.heap.size, 4, none⟩ (.int .i64 yf.lim)).setCell ⟨V2.heap.size, 5, none⟩ (.int .i64 ((j : Int) + 1))).setCell ⟨V2.heap.size, 6, none⟩ (.int .u64 (d : Int))).setCell ⟨V2.heap.size, 7, none⟩ (.bool yb)).setCell ⟨V2.heap.size, 8, none⟩ (.int .u64 (yt : Int))) := (((((((((hB.setCell le_xx _).setCell le_xx _).setCell le_xx _).setCell le_xx _).setCell le_xx _).setCell le_xx _).setCell le_xx _).setCell le_xx _).setCell le_xx _)
              generalize (((((((((V8.setCell ⟨V2.heap.size, 0, none⟩ (.string yf.b0)).setCell ⟨V2.heap.size, 1, none⟩ (.string yf.b1)).setCell ⟨V2.heap.size, 2, none⟩ (.int .i64 yf.e0)).setCell ⟨V2.heap.size, 3, none⟩ (.int .i64 yf.e1)).setCell ⟨V2.heap.size, 4, none⟩ (.int .i64 yf.lim)).setCell ⟨V2.heap.size, 5, none⟩ (.int .i64 ((j : Int) + 1))).setCell ⟨V2.heap.size, 6, none⟩ (.int .u64 (d : Int))).setCell ⟨V2.heap.size, 7, none⟩ (.bool yb)).setCell ⟨V2.heap.size, 8, none⟩ (.int .u64 (yt : Int))) = V9 at *
              have xx0 := xx.cell 0 rfl
              have xxz0 := xx.frozen 0
              have xx1 := xx.cell 1 rfl
              have xxz1 := xx.frozen 1
              have xx2 := xx.cell 2 rfl
              have xxz2 := xx.frozen 2
              have xx3 := xx.cell 3 rfl
              have xxz3 := xx.frozen 3
              have xx4 := xx.cell 4 rfl
              have xxz4 := xx.frozen 4
              have xx5 := xx.cell 5 rfl
              have xxz5 := xx.frozen 5
              have xx6 := xx.cell 6 rfl
              have xxz6 := xx.frozen 6
              have xx7 := xx.cell 7 rfl
              have xxz7 := xx.frozen 7
              have xx8 := xx.cell 8 rfl
              have xxz8 := xx.frozen 8
              have xy0 := xy.cell 0 rfl
              have xyz0 := xy.frozen 0
              have xy1 := xy.cell 1 rfl
              have xyz1 := xy.frozen 1
              have xy2 := xy.cell 2 rfl
              have xyz2 := xy.frozen 2
              have xy3 := xy.cell 3 rfl
              have xyz3 := xy.frozen 3
              have xy4 := xy.cell 4 rfl
              have xyz4 := xy.frozen 4
              have xy5 := xy.cell 5 rfl
              have xyz5 := xy.frozen 5
              have xy6 := xy.cell 6 rfl
              have xyz6 := xy.frozen 6
              have xy7 := xy.cell 7 rfl
              have xyz7 := xy.frozen 7
              have xy8 := xy.cell 8 rfl
              have xyz8 := xy.frozen 8
              clear xx0 xxz0 xx1 xxz1 xx2 xxz2 xx3 xxz3 xx4 xxz4 xx5 xxz5 xx6 xxz6 xx7 xxz7 xx8 xxz8 xy0 xyz0 xy1 xyz1 xy2 xyz2 xy3 xyz3 xy4 xyz4 xy5 xyz5 xy6 xyz6 xy7 xyz7 xy8 xyz8
              go_roundw
              case rel => exact ⟨j + 1, ⟨yf, (j : Int) + 1, d, yb, yt⟩, by omega, by go_num, by omega, s3.out, hyf, ⟨by show (0 : Int) ≤ (j : Int) + 1; omega, by show (j : Int) + 1 ≤ 1000; omega⟩, xx, hB⟩
              case measure => simp [intOf]; omega
            · have xx0 := xx.cell 0 rfl
              have xxz0 := xx.frozen 0
              have xx1 := xx.cell 1 rfl
              have xxz1 := xx.frozen 1
              have xx2 := xx.cell 2 rfl
              have xxz2 := xx.frozen 2
              have xx3 := xx.cell 3 rfl
              have xxz3 := xx.frozen 3
              have xx4 := xx.cell 4 rfl
              have xxz4 := xx.frozen 4
              have xx5 := xx.cell 5 rfl
              have xxz5 := xx.frozen 5
              have xx6 := xx.cell 6 rfl
              have xxz6 := xx.frozen 6
              have xx7 := xx.cell 7 rfl
              have xxz7 := xx.frozen 7
              have xx8 := xx.cell 8 rfl
              have xxz8 := xx.frozen 8
              go_simp
              try go_wp2_with fail
              clear xx0 xxz0 xx1 xxz1 xx2 xxz2 xx3 xxz3 xx4 xxz4 xx5 xxz5 xx6 xxz6 xx7 xxz7 xx8 xxz8
              have xy := Box.new 33 V3 [.string ⟨#[]⟩, .string ⟨#[]⟩, .int .i64 0, .int .i64 0, .int .i64 0, .int .i64 0, .int .u64 0, .bool false, .int .u64 0]
              have ne_xy_xx : V3.heap.size ≠ V2.heap.size := Nat.ne_of_gt xx.lt
              have le_xy : W.heap.size ≤ V3.heap.size := hB.size
              replace xx := xx.alloc (.cells #[.string ⟨#[]⟩, .string ⟨#[]⟩, .int .i64 0, .int .i64 0, .int .i64 0, .int .i64 0, .int .u64 0, .bool false, .int .u64 0] 33)
              replace hB := hB.alloc hB.size (.cells #[.string ⟨#[]⟩, .string ⟨#[]⟩, .int .i64 0, .int .i64 0, .int .i64 0, .int .i64 0, .int .u64 0, .bool false, .int .u64 0] 33)
              have xx0 := xx.cell 0 rfl
              have xxz0 := xx.frozen 0
              have xx1 := xx.cell 1 rfl
              have xxz1 := xx.frozen 1
              have xx2 := xx.cell 2 rfl
              have xxz2 := xx.frozen 2
              have xx3 := xx.cell 3 rfl
              have xxz3 := xx.frozen 3
              have xx4 := xx.cell 4 rfl
              have xxz4 := xx.frozen 4
              have xx5 := xx.cell 5 rfl
              have xxz5 := xx.frozen 5
              have xx6 := xx.cell 6 rfl
              have xxz6 := xx.frozen 6
              have xx7 := xx.cell 7 rfl
              have xxz7 := xx.frozen 7
              have xx8 := xx.cell 8 rfl
              have xxz8 := xx.frozen 8
              have xy0 := xy.cell 0 rfl
              have xyz0 := xy.frozen 0
              have xy1 := xy.cell 1 rfl
              have xyz1 := xy.frozen 1
              have xy2 := xy.cell 2 rfl
              have xyz2 := xy.frozen 2
              have xy3 := xy.cell 3 rfl
              have xyz3 := xy.frozen 3
              have xy4 := xy.cell 4 rfl
              have xyz4 := xy.frozen 4
              have xy5 := xy.cell 5 rfl
              have xyz5 := xy.frozen 5
              have xy6 := xy.cell 6 rfl
              have xyz6 := xy.frozen 6
              have xy7 := xy.cell 7 rfl
              have xyz7 := xy.frozen 7
              have xy8 := xy.cell 8 rfl
              have xyz8 := xy.frozen 8
              generalize (V3.alloc (.cells #[.string ⟨#[]⟩, .string ⟨#[]⟩, .int .i64 0, .int .i64 0, .int .i64 0, .int .i64 0, .int .u64 0, .bool false, .int .u64 0] 33)) = V4 at *
              generalize V3.heap.size = g_xy at *
              clear xx0 xxz0 xx1 xxz1 xx2 xxz2 xx3 xxz3 xx4 xxz4 xx5 xxz5 xx6 xxz6 xx7 xxz7 xx8 xxz8 xy0 xyz0 xy1 xyz1 xy2 xyz2 xy3 xyz3 xy4 xyz4 xy5 xyz5 xy6 xyz6 xy7 xyz7 xy8 xyz8
              clear hHeld
              refine hK.out _ _ ?_ (fun hHeld => ?_)
              · exact ⟨xx.cell 0 rfl, xx.cell 1 rfl, xx.cell 2 rfl, xx.cell 3 rfl, xx.cell 4 rfl, xx.cell 5 rfl, xx.cell 6 rfl, xx.cell 7 rfl, xx.cell 8 rfl, HC.out _ hB⟩
              clear hK K
              try simp only [Act.put, List.getElem_toArray, List.getElem_cons_zero, List.getElem_cons_succ, List.setIfInBounds_toArray, List.set_cons_zero, List.set_cons_succ]
              refine wpAnyH_ready (rs := [6]) (by kernel_rfl) (by simp) ?_
              refine AllReadyH.cons rfl (fun K hK => ?_) (AllReadyH.nil)
              have xx0 := xx.cell 0 rfl
              have xxz0 := xx.frozen 0
              have xx1 := xx.cell 1 rfl
              have xxz1 := xx.frozen 1
              have xx2 := xx.cell 2 rfl
              have xxz2 := xx.frozen 2
              have xx3 := xx.cell 3 rfl
              have xxz3 := xx.frozen 3
              have xx4 := xx.cell 4 rfl
              have xxz4 := xx.frozen 4
              have xx5 := xx.cell 5 rfl
              have xxz5 := xx.frozen 5
              have xx6 := xx.cell 6 rfl
              have xxz6 := xx.frozen 6
              have xx7 := xx.cell 7 rfl
              have xxz7 := xx.frozen 7
              have xx8 := xx.cell 8 rfl
              have xxz8 := xx.frozen 8
              have xy0 := xy.cell 0 rfl
              have xyz0 := xy.frozen 0
              have xy1 := xy.cell 1 rfl
              have xyz1 := xy.frozen 1
              have xy2 := xy.cell 2 rfl
              have xyz2 := xy.frozen 2
              have xy3 := xy.cell 3 rfl
              have xyz3 := xy.frozen 3
              have xy4 := xy.cell 4 rfl
              have xyz4 := xy.frozen 4
              have xy5 := xy.cell 5 rfl
              have xyz5 := xy.frozen 5
              have xy6 := xy.cell 6 rfl
              have xyz6 := xy.frozen 6
              have xy7 := xy.cell 7 rfl
              have xyz7 := xy.frozen 7
              have xy8 := xy.cell 8 rfl
              have xyz8 := xy.frozen 8
              go_simp
              refine (TP.out _).mono ?_
              rintro e V5 ⟨rfl, hk⟩
              clear xx0 xxz0 xx1 xxz1 xx2 xxz2 xx3 xxz3 xx4 xxz4 xx5 xxz5 xx6 xxz6 xx7 xxz7 xx8 xxz8 xy0 xyz0 xy1 xyz1 xy2 xyz2 xy3 xyz3 xy4 xyz4 xy5 xyz5 xy6 xyz6 xy7 xyz7 xy8 xyz8
              replace hB := below_seq hB hk
              replace xx := xx.seq hk
              replace xy := xy.seq hk
              clear hk
              have xx0 := xx.cell 0 rfl
              have xxz0 := xx.frozen 0
              have xx1 := xx.cell 1 rfl
              have xxz1 := xx.frozen 1
              have xx2 := xx.cell 2 rfl
              have xxz2 := xx.frozen 2
              have xx3 := xx.cell 3 rfl
              have xxz3 := xx.frozen 3
              have xx4 := xx.cell 4 rfl
              have xxz4 := xx.frozen 4
              have xx5 := xx.cell 5 rfl
              have xxz5 := xx.frozen 5
              have xx6 := xx.cell 6 rfl
              have xxz6 := xx.frozen 6
              have xx7 := xx.cell 7 rfl
              have xxz7 := xx.frozen 7
              have xx8 := xx.cell 8 rfl
              have xxz8 := xx.frozen 8
              have xy0 := xy.cell 0 rfl
              have xyz0 := xy.frozen 0
              have xy1 := xy.cell 1 rfl
              have xyz1 := xy.frozen 1
              have xy2 := xy.cell 2 rfl
              have xyz2 := xy.frozen 2
              have xy3 := xy.cell 3 rfl
              have xyz3 := xy.frozen 3
              have xy4 := xy.cell 4 rfl
              have xyz4 := xy.frozen 4
              have xy5 := xy.cell 5 rfl
              have xyz5 := xy.frozen 5
              have xy6 := xy.cell 6 rfl
              have xyz6 := xy.frozen 6
              have xy7 := xy.cell 7 rfl
              have xyz7 := xy.frozen 7
              have xy8 := xy.cell 8 rfl
              have xyz8 := xy.frozen 8
              try go_wp2_with fail
              clear xx0 xxz0 xx1 xxz1 xx2 xxz2 xx3 xxz3 xx4 xxz4 xx5 xxz5 xx6 xxz6 xx7 xxz7 xx8 xxz8 xy0 xyz0 xy1 xyz1 xy2 xyz2 xy3 xyz3 xy4 xyz4 xy5 xyz5 xy6 xyz6 xy7 xyz7 xy8 xyz8
              clear hHeld
              refine hK.out _ _ ?_ (fun hHeld => ?_)
              · exact ⟨xx.cell 0 rfl, xx.cell 1 rfl, xx.cell 2 rfl, xx.cell 3 rfl, xx.cell 4 rfl, xx.cell 5 rfl, xx.cell 6 rfl, xx.cell 7 rfl, xx.cell 8 rfl, HC.out _ hB⟩
              clear hK K
              try simp only [Act.put, List.getElem_toArray, List.getElem_cons_zero, List.getElem_cons_succ, List.setIfInBounds_toArray, List.set_cons_zero, List.set_cons_succ]
              refine wpAnyH_ready (rs := [8]) (by kernel_rfl) (by simp) ?_
              refine AllReadyH.cons rfl (fun K hK => ?_) (AllReadyH.nil)
              have xx0 := xx.cell 0 rfl
              have xxz0 := xx.frozen 0
              have xx1 := xx.cell 1 rfl
              have xxz1 := xx.frozen 1
              have xx2 := xx.cell 2 rfl
              have xxz2 := xx.frozen 2
              have xx3 := xx.cell 3 rfl
              have xxz3 := xx.frozen 3
              have xx4 := xx.cell 4 rfl
              have xxz4 := xx.frozen 4
              have xx5 := xx.cell 5 rfl
              have xxz5 := xx.frozen 5
              have xx6 := xx.cell 6 rfl
              have xxz6 := xx.frozen 6
              have xx7 := xx.cell 7 rfl
              have xxz7 := xx.frozen 7
              have xx8 := xx.cell 8 rfl
              have xxz8 := xx.frozen 8
              have xy0 := xy.cell 0 rfl
              have xyz0 := xy.frozen 0
              have xy1 := xy.cell 1 rfl
              have xyz1 := xy.frozen 1
              have xy2 := xy.cell 2 rfl
              have xyz2 := xy.frozen 2
              have xy3 := xy.cell 3 rfl
              have xyz3 := xy.frozen 3
              have xy4 := xy.cell 4 rfl
              have xyz4 := xy.frozen 4
              have xy5 := xy.cell 5 rfl
              have xyz5 := xy.frozen 5
              have xy6 := xy.cell 6 rfl
              have xyz6 := xy.frozen 6
              have xy7 := xy.cell 7 rfl
              have xyz7 := xy.frozen 7
              have xy8 := xy.cell 8 rfl
              have xyz8 := xy.frozen 8
              go_simp
              try go_wp2_with fail
              clear xx0 xxz0 xx1 xxz1 xx2 xxz2 xx3 xxz3 xx4 xxz4 xx5 xxz5 xx6 xxz6 xx7 xxz7 xx8 xxz8 xy0 xyz0 xy1 xyz1 xy2 xyz2 xy3 xyz3 xy4 xyz4 xy5 xyz5 xy6 xyz6 xy7 xyz7 xy8 xyz8
              replace xx : Box 33 (((((((((V5.setCell ⟨g_xy, 0, none⟩ (.string yf.b0)).setCell ⟨g_xy, 1, none⟩ (.string yf.b1)).setCell ⟨g_xy, 2, none⟩ (.int .i64 yf.e0)).setCell ⟨g_xy, 3, none⟩ (.int .i64 yf.e1)).setCell ⟨g_xy, 4, none⟩ (.int .i64 yf.lim)).setCell ⟨g_xy, 5, none⟩ (.int .i64 ((j : Int) + 1))).setCell ⟨g_xy, 6, none⟩ (.int .u64 (d : Int))).setCell ⟨g_xy, 7, none⟩ (.bool yb)).setCell ⟨g_xy, 8, none⟩ (.int .u64 (yt : Int))) (V2.heap.size) [.string x.f.b0, .string x.f.b1, .int .i64 x.f.e0, .int .i64 x.f.e1, .int .i64 x.f.lim, .int .i64 x.acked, .int .u64 (x.last : Int), .bool x.flying, .int .u64 (x.flight : Int)] := (((((((((xx.other ne_xy_xx 0 (.string yf.b0)).other ne_xy_xx 1 (.string yf.b1)).other ne_xy_xx 2 (.int .i64 yf.e0)).other ne_xy_xx 3 (.int .i64 yf.e1)).other ne_xy_xx 4 (.int .i64 yf.lim)).other ne_xy_xx 5 (.int .i64 ((j : Int) + 1))).other ne_xy_xx 6 (.int .u64 (d : Int))).other ne_xy_xx 7 (.bool yb)).other ne_xy_xx 8 (.int .u64 (yt : Int)))
              replace xy : Box 33 (((((((((V5.setCell ⟨g_xy, 0, none⟩ (.string yf.b0)).setCell ⟨g_xy, 1, none⟩ (.string yf.b1)).setCell ⟨g_xy, 2, none⟩ (.int .i64 yf.e0)).setCell ⟨g_xy, 3, none⟩ (.int .i64 yf.e1)).setCell ⟨g_xy, 4, none⟩ (.int .i64 yf.lim)).setCell ⟨g_xy, 5, none⟩ (.int .i64 ((j : Int) + 1))).setCell ⟨g_xy, 6, none⟩ (.int .u64 (d : Int))).setCell ⟨g_xy, 7, none⟩ (.bool yb)).setCell ⟨g_xy, 8, none⟩ (.int .u64 (yt : Int))) (g_xy) [.string yf.b0, .string yf.b1, .int .i64 yf.e0, .int .i64 yf.e1, .int .i64 yf.lim, .int .i64 ((j : Int) + 1), .int .u64 (d : Int), .bool yb, .int .u64 (yt : Int)] := (((((((((xy.set 0 (.string yf.b0)).set 1 (.string yf.b1)).set 2 (.int .i64 yf.e0)).set 3 (.int .i64 yf.e1)).set 4 (.int .i64 yf.lim)).set 5 (.int .i64 ((j : Int) + 1))).set 6 (.int .u64 (d : Int))).set 7 (.bool yb)).set 8 (.int .u64 (yt : Int)))
              replace hB : Below W.heap.size W (((((((((V5.setCell ⟨g_xy, 0, none⟩ (.string yf.b0)).setCell ⟨g_xy, 1, none⟩ (.string yf.b1)).setCell ⟨g_xy, 2, none⟩ (.int .i64 yf.e0)).setCell ⟨g_xy, 3, none⟩ (.int .i64 yf.e1)).setCell ⟨g_xy, 4, none⟩ (.int .i64 yf.lim)).setCell ⟨g_xy, 5, none⟩ (.int .i64 ((j : Int) + 1))).setCell ⟨g_xy, 6, none⟩ (.int .u64 (d : Int))).setCell ⟨g_xy, 7, none⟩ (.bool yb)).setCell ⟨g_xy, 8, none⟩ (.int .u64 (yt : Int))) := (((((((((hB.setCell le_xy _).setCell le_xy _).setCell le_xy _).setCell le_xy _).setCell le_xy _).setCell le_xy _).setCell le_xy _).setCell le_xy _).setCell le_xy _)
              generalize (((((((((V5.setCell ⟨g_xy, 0, none⟩ (.string yf.b0)).setCell ⟨g_xy, 1, none⟩ (.string yf.b1)).setCell ⟨g_xy, 2, none⟩ (.int .i64 yf.e0)).setCell ⟨g_xy, 3, none⟩ (.int .i64 yf.e1)).setCell ⟨g_xy, 4, none⟩ (.int .i64 yf.lim)).setCell ⟨g_xy, 5, none⟩ (.int .i64 ((j : Int) + 1))).setCell ⟨g_xy, 6, none⟩ (.int .u64 (d : Int))).setCell ⟨g_xy, 7, none⟩ (.bool yb)).setCell ⟨g_xy, 8, none⟩ (.int .u64 (yt : Int))) = V6 at *
              clear hHeld
              refine hK.out _ _ ?_ (fun hHeld => ?_)
              · exact ⟨xx.cell 0 rfl, xx.cell 1 rfl, xx.cell 2 rfl, xx.cell 3 rfl, xx.cell 4 rfl, xx.cell 5 rfl, xx.cell 6 rfl, xx.cell 7 rfl, xx.cell 8 rfl, HC.out _ hB⟩
              clear hK K
              try simp only [Act.put, List.getElem_toArray, List.getElem_cons_zero, List.getElem_cons_succ, List.setIfInBounds_toArray, List.set_cons_zero, List.set_cons_succ]
              refine wpAnyH_done (by kernel_rfl) ?_ _
              clear hHeld
              have xx0 := xx.cell 0 rfl
              have xxz0 := xx.frozen 0
              have xx1 := xx.cell 1 rfl
              have xxz1 := xx.frozen 1
              have xx2 := xx.cell 2 rfl
              have xxz2 := xx.frozen 2
              have xx3 := xx.cell 3 rfl
              have xxz3 := xx.frozen 3
              have xx4 := xx.cell 4 rfl
              have xxz4 := xx.frozen 4
              have xx5 := xx.cell 5 rfl
              have xxz5 := xx.frozen 5
              have xx6 := xx.cell 6 rfl
              have xxz6 := xx.frozen 6
              have xx7 := xx.cell 7 rfl
              have xxz7 := xx.frozen 7
              have xx8 := xx.cell 8 rfl
              have xxz8 := xx.frozen 8
              have xy0 := xy.cell 0 rfl
              have xyz0 := xy.frozen 0
              have xy1 := xy.cell 1 rfl
              have xyz1 := xy.frozen 1
              have xy2 := xy.cell 2 rfl
              have xyz2 := xy.frozen 2
              have xy3 := xy.cell 3 rfl
              have xyz3 := xy.frozen 3
              have xy4 := xy.cell 4 rfl
              have xyz4 := xy.frozen 4
              have xy5 := xy.cell 5 rfl
              have xyz5 := xy.frozen 5
              have xy6 := xy.cell 6 rfl
              have xyz6 := xy.frozen 6
              have xy7 := xy.cell 7 rfl
              have xyz7 := xy.frozen 7
              have xy8 := xy.cell 8 rfl
              have xyz8 := xy.frozen 8
              go_wp2_with fail
              clear xx0 xxz0 xx1 xxz1 xx2 xxz2 xx3 xxz3 xx4 xxz4 xx5 xxz5 xx6 xxz6 xx7 xxz7 xx8 xxz8 xy0 xyz0 xy1 xyz1 xy2 xyz2 xy3 xyz3 xy4 xyz4 xy5 xyz5 xy6 xyz6 xy7 xyz7 xy8 xyz8
              replace hB := hB.drew
              replace xx := xx.drew
              replace xy := xy.drew
              refine wp_region_held_drew (S := fun w' => w'.cell? ⟨g_xy, 0, none⟩ = some (.string yf.b0) ∧ w'.cell? ⟨g_xy, 1, none⟩ = some (.string yf.b1) ∧ w'.cell? ⟨g_xy, 2, none⟩ = some (.int .i64 yf.e0) ∧ w'.cell? ⟨g_xy, 3, none⟩ = some (.int .i64 yf.e1) ∧ w'.cell? ⟨g_xy, 4, none⟩ = some (.int .i64 yf.lim) ∧ w'.cell? ⟨g_xy, 5, none⟩ = some (.int .i64 ((j : Int) + 1)) ∧ w'.cell? ⟨g_xy, 6, none⟩ = some (.int .u64 (d : Int)) ∧ w'.cell? ⟨g_xy, 7, none⟩ = some (.bool yb) ∧ w'.cell? ⟨g_xy, 8, none⟩ = some (.int .u64 (yt : Int)) ∧ w'.cell? ⟨g, off + j, none⟩ = some (.int .u64 (d : Int))) (by kernel_rfl) ?_ (fun hHeld => ?_)
              · exact ⟨xy.cell 0 rfl, xy.cell 1 rfl, xy.cell 2 rfl, xy.cell 3 rfl, xy.cell 4 rfl, xy.cell 5 rfl, xy.cell 6 rfl, xy.cell 7 rfl, xy.cell 8 rfl, HC.out _ hB⟩
              generalize V6.drew = V7 at *
              refine wpAnyH_take (i := 0) (v := ?_) rfl (by kernel_rfl) (by kernel_rfl) (by kernel_rfl) (fun _ _ _ h => h) (Or.inl ⟨by rfl, ?_⟩) (by assumption) ?_
              rotate_left
              · intro w hSw; (try dsimp only at hSw); go_simp; try with_reducible rfl
              try simp only [Act.put, List.getElem_toArray, List.getElem_cons_zero, List.getElem_cons_succ, List.setIfInBounds_toArray, List.set_cons_zero, List.set_cons_succ]
              refine wpAnyH_take (i := 1) (v := ?_) rfl (by kernel_rfl) (by kernel_rfl) (by kernel_rfl) (fun _ _ _ h => h) (Or.inl ⟨by rfl, ?_⟩) (by assumption) ?_
              rotate_left
              · intro w hSw; (try dsimp only at hSw); go_simp; try with_reducible rfl
              try simp only [Act.put, List.getElem_toArray, List.getElem_cons_zero, List.getElem_cons_succ, List.setIfInBounds_toArray, List.set_cons_zero, List.set_cons_succ]
              refine wpAnyH_take (i := 2) (v := ?_) rfl (by kernel_rfl) (by kernel_rfl) (by kernel_rfl) (fun _ _ _ h => h) (Or.inl ⟨by rfl, ?_⟩) (by assumption) ?_
              rotate_left
              · intro w hSw; (try dsimp only at hSw); go_simp; try with_reducible rfl
              try simp only [Act.put, List.getElem_toArray, List.getElem_cons_zero, List.getElem_cons_succ, List.setIfInBounds_toArray, List.set_cons_zero, List.set_cons_succ]
              refine wpAnyH_take (i := 3) (v := ?_) rfl (by kernel_rfl) (by kernel_rfl) (by kernel_rfl) (fun _ _ _ h => h) (Or.inl ⟨by rfl, ?_⟩) (by assumption) ?_
              rotate_left
              · intro w hSw; (try dsimp only at hSw); go_simp; try with_reducible rfl
              try simp only [Act.put, List.getElem_toArray, List.getElem_cons_zero, List.getElem_cons_succ, List.setIfInBounds_toArray, List.set_cons_zero, List.set_cons_succ]
              refine wpAnyH_take (i := 4) (v := ?_) rfl (by kernel_rfl) (by kernel_rfl) (by kernel_rfl) (fun _ _ _ h => h) (Or.inl ⟨by rfl, ?_⟩) (by assumption) ?_
              rotate_left
              · intro w hSw; (try dsimp only at hSw); go_simp; try with_reducible rfl
              try simp only [Act.put, List.getElem_toArray, List.getElem_cons_zero, List.getElem_cons_succ, List.setIfInBounds_toArray, List.set_cons_zero, List.set_cons_succ]
              refine wpAnyH_take (i := 5) (v := ?_) rfl (by kernel_rfl) (by kernel_rfl) (by kernel_rfl) (fun _ _ _ h => h) (Or.inl ⟨by rfl, ?_⟩) (by assumption) ?_
              rotate_left
              · intro w hSw; (try dsimp only at hSw); go_simp; try with_reducible rfl
              try simp only [Act.put, List.getElem_toArray, List.getElem_cons_zero, List.getElem_cons_succ, List.setIfInBounds_toArray, List.set_cons_zero, List.set_cons_succ]
              refine wpAnyH_take (i := 6) (v := ?_) rfl (by kernel_rfl) (by kernel_rfl) (by kernel_rfl) (fun _ _ _ h => h) (Or.inl ⟨by rfl, ?_⟩) (by assumption) ?_
              rotate_left
              · intro w hSw; (try dsimp only at hSw); go_simp; try with_reducible rfl
              try simp only [Act.put, List.getElem_toArray, List.getElem_cons_zero, List.getElem_cons_succ, List.setIfInBounds_toArray, List.set_cons_zero, List.set_cons_succ]
              refine wpAnyH_take (i := 7) (v := ?_) rfl (by kernel_rfl) (by kernel_rfl) (by kernel_rfl) (fun _ _ _ h => h) (Or.inl ⟨by rfl, ?_⟩) (by assumption) ?_
              rotate_left
              · intro w hSw; (try dsimp only at hSw); go_simp; try with_reducible rfl
              try simp only [Act.put, List.getElem_toArray, List.getElem_cons_zero, List.getElem_cons_succ, List.setIfInBounds_toArray, List.set_cons_zero, List.set_cons_succ]
              refine wpAnyH_take (i := 8) (v := ?_) rfl (by kernel_rfl) (by kernel_rfl) (by kernel_rfl) (fun _ _ _ h => h) (Or.inl ⟨by rfl, ?_⟩) (by assumption) ?_
              rotate_left
              · intro w hSw; (try dsimp only at hSw); go_simp; try with_reducible rfl
              try simp only [Act.put, List.getElem_toArray, List.getElem_cons_zero, List.getElem_cons_succ, List.setIfInBounds_toArray, List.set_cons_zero, List.set_cons_succ]
              refine wpAnyH_take (i := 9) (v := ?_) rfl (by kernel_rfl) (by kernel_rfl) (by kernel_rfl) (fun _ _ _ h => h) (Or.inl ⟨by rfl, ?_⟩) (by assumption) ?_
              rotate_left
              · intro w hSw; (try dsimp only at hSw); go_simp; try with_reducible rfl
              try simp only [Act.put, List.getElem_toArray, List.getElem_cons_zero, List.getElem_cons_succ, List.setIfInBounds_toArray, List.set_cons_zero, List.set_cons_succ]
              refine wpAnyH_take (i := 10) (v := ?_) rfl (by kernel_rfl) (by kernel_rfl) (by kernel_rfl) (fun _ _ _ h => h) (Or.inl ⟨by rfl, ?_⟩) (by assumption) ?_
              rotate_left
              · intro w hSw; (try dsimp only at hSw); go_simp; try with_reducible rfl
              try simp only [Act.put, List.getElem_toArray, List.getElem_cons_zero, List.getElem_cons_succ, List.setIfInBounds_toArray, List.set_cons_zero, List.set_cons_succ]
              refine wpAnyH_take (i := 11) (v := ?_) rfl (by kernel_rfl) (by kernel_rfl) (by kernel_rfl) (fun _ _ _ h => h) (Or.inl ⟨by rfl, ?_⟩) (by assumption) ?_
              rotate_left
              · intro w hSw; (try dsimp only at hSw); go_simp; try with_reducible rfl
              try simp only [Act.put, List.getElem_toArray, List.getElem_cons_zero, List.getElem_cons_succ, List.setIfInBounds_toArray, List.set_cons_zero, List.set_cons_succ]
              refine wpAnyH_take (i := 12) (v := ?_) rfl (by kernel_rfl) (by kernel_rfl) (by kernel_rfl) (fun _ _ _ h => h) (Or.inl ⟨by rfl, ?_⟩) (by assumption) ?_
              rotate_left
              · intro w hSw; (try dsimp only at hSw); go_simp; try with_reducible rfl
              try simp only [Act.put, List.getElem_toArray, List.getElem_cons_zero, List.getElem_cons_succ, List.setIfInBounds_toArray, List.set_cons_zero, List.set_cons_succ]
              refine wpAnyH_take (i := 13) (v := ?_) rfl (by kernel_rfl) (by kernel_rfl) (by kernel_rfl) (fun _ _ _ h => h) (Or.inl ⟨by rfl, ?_⟩) (by assumption) ?_
              rotate_left
              · intro w hSw; (try dsimp only at hSw); go_simp; try with_reducible rfl
              try simp only [Act.put, List.getElem_toArray, List.getElem_cons_zero, List.getElem_cons_succ, List.setIfInBounds_toArray, List.set_cons_zero, List.set_cons_succ]
              refine wpAnyH_take (i := 14) (v := ?_) rfl (by kernel_rfl) (by kernel_rfl) (by kernel_rfl) (fun _ _ _ h => h) (Or.inl ⟨by rfl, ?_⟩) (by assumption) ?_
              rotate_left
              · intro w hSw; (try dsimp only at hSw); go_simp; try with_reducible rfl
              try simp only [Act.put, List.getElem_toArray, List.getElem_cons_zero, List.getElem_cons_succ, List.setIfInBounds_toArray, List.set_cons_zero, List.set_cons_succ]
              refine wpAnyH_take (i := 15) (v := ?_) rfl (by kernel_rfl) (by kernel_rfl) (by kernel_rfl) (fun _ _ _ h => h) (Or.inl ⟨by rfl, ?_⟩) (by assumption) ?_
              rotate_left
              · intro w hSw; (try dsimp only at hSw); go_simp; try with_reducible rfl
              try simp only [Act.put, List.getElem_toArray, List.getElem_cons_zero, List.getElem_cons_succ, List.setIfInBounds_toArray, List.set_cons_zero, List.set_cons_succ]
              refine wpAnyH_take (i := 16) (v := ?_) rfl (by kernel_rfl) (by kernel_rfl) (by kernel_rfl) (fun _ _ _ h => h) (Or.inl ⟨by rfl, ?_⟩) (by assumption) ?_
              rotate_left
              · intro w hSw; (try dsimp only at hSw); go_simp; try with_reducible rfl
              try simp only [Act.put, List.getElem_toArray, List.getElem_cons_zero, List.getElem_cons_succ, List.setIfInBounds_toArray, List.set_cons_zero, List.set_cons_succ]
              refine wpAnyH_take (i := 18) (v := ?_) rfl (by kernel_rfl) (by kernel_rfl) (by kernel_rfl) (fun _ _ _ h => h) (Or.inl ⟨by rfl, ?_⟩) (by assumption) ?_
              rotate_left
              · intro w hSw; (try dsimp only at hSw); go_simp; try with_reducible rfl
              try simp only [Act.put, List.getElem_toArray, List.getElem_cons_zero, List.getElem_cons_succ, List.setIfInBounds_toArray, List.set_cons_zero, List.set_cons_succ]
              refine wpAnyH_take (i := 19) (v := ?_) rfl (by kernel_rfl) (by kernel_rfl) (by kernel_rfl) (fun _ _ _ h => h) (Or.inl ⟨by rfl, ?_⟩) (by assumption) ?_
              rotate_left
              · intro w hSw; (try dsimp only at hSw); go_simp; try with_reducible rfl
              try simp only [Act.put, List.getElem_toArray, List.getElem_cons_zero, List.getElem_cons_succ, List.setIfInBounds_toArray, List.set_cons_zero, List.set_cons_succ]
              refine wpAnyH_take (i := 20) (v := ?_) rfl (by kernel_rfl) (by kernel_rfl) (by kernel_rfl) (fun _ _ _ h => h) (Or.inl ⟨by rfl, ?_⟩) (by assumption) ?_
              rotate_left
              · intro w hSw; (try dsimp only at hSw); go_simp; try with_reducible rfl
              try simp only [Act.put, List.getElem_toArray, List.getElem_cons_zero, List.getElem_cons_succ, List.setIfInBounds_toArray, List.set_cons_zero, List.set_cons_succ]
              refine wpAnyH_take (i := 21) (v := ?_) rfl (by kernel_rfl) (by kernel_rfl) (by kernel_rfl) (fun _ _ _ h => h) (Or.inl ⟨by rfl, ?_⟩) (by assumption) ?_
              rotate_left
              · intro w hSw; (try dsimp only at hSw); go_simp; try with_reducible rfl
              try simp only [Act.put, List.getElem_toArray, List.getElem_cons_zero, List.getElem_cons_succ, List.setIfInBounds_toArray, List.set_cons_zero, List.set_cons_succ]
              refine wpAnyH_ready (rs := [17]) (by kernel_rfl) (by simp) ?_
              refine AllReadyH.cons rfl (fun K hK => ?_) AllReadyH.nil
              have xx0 := xx.cell 0 rfl
              have xxz0 := xx.frozen 0
              have xx1 := xx.cell 1 rfl
              have xxz1 := xx.frozen 1
              have xx2 := xx.cell 2 rfl
              have xxz2 := xx.frozen 2
              have xx3 := xx.cell 3 rfl
              have xxz3 := xx.frozen 3
              have xx4 := xx.cell 4 rfl
              have xxz4 := xx.frozen 4
              have xx5 := xx.cell 5 rfl
              have xxz5 := xx.frozen 5
              have xx6 := xx.cell 6 rfl
              have xxz6 := xx.frozen 6
              have xx7 := xx.cell 7 rfl
              have xxz7 := xx.frozen 7
              have xx8 := xx.cell 8 rfl
              have xxz8 := xx.frozen 8
              have xy0 := xy.cell 0 rfl
              have xyz0 := xy.frozen 0
              have xy1 := xy.cell 1 rfl
              have xyz1 := xy.frozen 1
              have xy2 := xy.cell 2 rfl
              have xyz2 := xy.frozen 2
              have xy3 := xy.cell 3 rfl
              have xyz3 := xy.frozen 3
              have xy4 := xy.cell 4 rfl
              have xyz4 := xy.frozen 4
              have xy5 := xy.cell 5 rfl
              have xyz5 := xy.frozen 5
              have xy6 := xy.cell 6 rfl
              have xyz6 := xy.frozen 6
              have xy7 := xy.cell 7 rfl
              have xyz7 := xy.frozen 7
              have xy8 := xy.cell 8 rfl
              have xyz8 := xy.frozen 8
              go_simp
              refine (TW.out _).mono ?_
              rintro e V8 ⟨rfl, hk⟩
              clear xx0 xxz0 xx1 xxz1 xx2 xxz2 xx3 xxz3 xx4 xxz4 xx5 xxz5 xx6 xxz6 xx7 xxz7 xx8 xxz8 xy0 xyz0 xy1 xyz1 xy2 xyz2 xy3 xyz3 xy4 xyz4 xy5 xyz5 xy6 xyz6 xy7 xyz7 xy8 xyz8
              replace hB := below_seq hB hk
              replace xx := xx.seq hk
              replace xy := xy.seq hk
              clear hk
              have xx0 := xx.cell 0 rfl
              have xxz0 := xx.frozen 0
              have xx1 := xx.cell 1 rfl
              have xxz1 := xx.frozen 1
              have xx2 := xx.cell 2 rfl
              have xxz2 := xx.frozen 2
              have xx3 := xx.cell 3 rfl
              have xxz3 := xx.frozen 3
              have xx4 := xx.cell 4 rfl
              have xxz4 := xx.frozen 4
              have xx5 := xx.cell 5 rfl
              have xxz5 := xx.frozen 5
              have xx6 := xx.cell 6 rfl
              have xxz6 := xx.frozen 6
              have xx7 := xx.cell 7 rfl
              have xxz7 := xx.frozen 7
              have xx8 := xx.cell 8 rfl
              have xxz8 := xx.frozen 8
              have xy0 := xy.cell 0 rfl
              have xyz0 := xy.frozen 0
              have xy1 := xy.cell 1 rfl
              have xyz1 := xy.frozen 1
              have xy2 := xy.cell 2 rfl
              have xyz2 := xy.frozen 2
              have xy3 := xy.cell 3 rfl
              have xyz3 := xy.frozen 3
              have xy4 := xy.cell 4 rfl
              have xyz4 := xy.frozen 4
              have xy5 := xy.cell 5 rfl
              have xyz5 := xy.frozen 5
              have xy6 := xy.cell 6 rfl
              have xyz6 := xy.frozen 6
              have xy7 := xy.cell 7 rfl
              have xyz7 := xy.frozen 7
              have xy8 := xy.cell 8 rfl
              have xyz8 := xy.frozen 8
              try go_wp2_with fail
              clear xx0 xxz0 xx1 xxz1 xx2 xxz2 xx3 xxz3 xx4 xxz4 xx5 xxz5 xx6 xxz6 xx7 xxz7 xx8 xxz8 xy0 xyz0 xy1 xyz1 xy2 xyz2 xy3 xyz3 xy4 xyz4 xy5 xyz5 xy6 xyz6 xy7 xyz7 xy8 xyz8
              clear hHeld
              refine hK.out _ _ ?_ (fun hHeld => ?_)
              · exact ⟨xy.cell 0 rfl, xy.cell 1 rfl, xy.cell 2 rfl, xy.cell 3 rfl, xy.cell 4 rfl, xy.cell 5 rfl, xy.cell 6 rfl, xy.cell 7 rfl, xy.cell 8 rfl, HC.out _ hB⟩
              clear hK K
              try simp only [Act.put, List.getElem_toArray, List.getElem_cons_zero, List.getElem_cons_succ, List.setIfInBounds_toArray, List.set_cons_zero, List.set_cons_succ]
              refine wpAnyH_take (i := 22) (v := ?_) rfl (by kernel_rfl) (by kernel_rfl) (by kernel_rfl) (fun _ _ _ h => h) (Or.inl ⟨by rfl, ?_⟩) (by assumption) ?_
              rotate_left
              · intro w hSw; (try dsimp only at hSw); go_simp; try with_reducible rfl
              try simp only [Act.put, List.getElem_toArray, List.getElem_cons_zero, List.getElem_cons_succ, List.setIfInBounds_toArray, List.set_cons_zero, List.set_cons_succ]
              refine wpAnyH_take (i := 23) (v := ?_) rfl (by kernel_rfl) (by kernel_rfl) (by kernel_rfl) (fun _ _ _ h => h) (Or.inl ⟨by rfl, ?_⟩) (by assumption) ?_
              rotate_left
              · intro w hSw; (try dsimp only at hSw); go_simp; try with_reducible rfl
              try simp only [Act.put, List.getElem_toArray, List.getElem_cons_zero, List.getElem_cons_succ, List.setIfInBounds_toArray, List.set_cons_zero, List.set_cons_succ]
              refine wpAnyH_done (by kernel_rfl) ?_ _
              clear hHeld
              have xx0 := xx.cell 0 rfl
              have xxz0 := xx.frozen 0
              have xx1 := xx.cell 1 rfl
              have xxz1 := xx.frozen 1
              have xx2 := xx.cell 2 rfl
              have xxz2 := xx.frozen 2
              have xx3 := xx.cell 3 rfl
              have xxz3 := xx.frozen 3
              have xx4 := xx.cell 4 rfl
              have xxz4 := xx.frozen 4
              have xx5 := xx.cell 5 rfl
              have xxz5 := xx.frozen 5
              have xx6 := xx.cell 6 rfl
              have xxz6 := xx.frozen 6
              have xx7 := xx.cell 7 rfl
              have xxz7 := xx.frozen 7
              have xx8 := xx.cell 8 rfl
              have xxz8 := xx.frozen 8
              have xy0 := xy.cell 0 rfl
              have xyz0 := xy.frozen 0
              have xy1 := xy.cell 1 rfl
              have xyz1 := xy.frozen 1
              have xy2 := xy.cell 2 rfl
              have xyz2 := xy.frozen 2
              have xy3 := xy.cell 3 rfl
              have xyz3 := xy.frozen 3
              have xy4 := xy.cell 4 rfl
              have xyz4 := xy.frozen 4
              have xy5 := xy.cell 5 rfl
              have xyz5 := xy.frozen 5
              have xy6 := xy.cell 6 rfl
              have xyz6 := xy.frozen 6
              have xy7 := xy.cell 7 rfl
              have xyz7 := xy.frozen 7
              have xy8 := xy.cell 8 rfl
              have xyz8 := xy.frozen 8
              go_wp2
              clear xx0 xxz0 xx1 xxz1 xx2 xxz2 xx3 xxz3 xx4 xxz4 xx5 xxz5 xx6 xxz6 xx7 xxz7 xx8 xxz8 xy0 xyz0 xy1 xyz1 xy2 xyz2 xy3 xyz3 xy4 xyz4 xy5 xyz5 xy6 xyz6 xy7 xyz7 xy8 xyz8
              replace xy : Box 33 (((((((((V8.setCell ⟨V2.heap.size, 0, none⟩ (.string yf.b0)).setCell ⟨V2.heap.size, 1, none⟩ (.string yf.b1)).setCell ⟨V2.heap.size, 2, none⟩ (.int .i64 yf.e0)).setCell ⟨V2.heap.size, 3, none⟩ (.int .i64 yf.e1)).setCell ⟨V2.heap.size, 4, none⟩ (.int .i64 yf.lim)).setCell ⟨V2.heap.size, 5, none⟩ (.int .i64 ((j : Int) + 1))).setCell ⟨V2.heap.size, 6, none⟩ (.int .u64 (d : Int))).setCell ⟨V2.heap.size, 7, none⟩ (.bool yb)).setCell ⟨V2.heap.size, 8, none⟩ (.int .u64 (yt : Int))) (g_xy) [.string yf.b0, .string yf.b1, .int .i64 yf.e0, .int .i64 yf.e1, .int .i64 yf.lim, .int .i64 ((j : Int) + 1), .int .u64 (d : Int), .bool yb, .int .u64 (yt : Int)] := (((((((((xy.other (Ne.symm ne_xy_xx) 0 (.string yf.b0)).other (Ne.symm ne_xy_xx) 1 (.string yf.b1)).other (Ne.symm ne_xy_xx) 2 (.int .i64 yf.e0)).other (Ne.symm ne_xy_xx) 3 (.int .i64 yf.e1)).other (Ne.symm ne_xy_xx) 4 (.int .i64 yf.lim)).other (Ne.symm ne_xy_xx) 5 (.int .i64 ((j : Int) + 1))).other (Ne.symm ne_xy_xx) 6 (.int .u64 (d : Int))).other (Ne.symm ne_xy_xx) 7 (.bool yb)).other (Ne.symm ne_xy_xx) 8 (.int .u64 (yt : Int)))
              replace xx : Box 33 (((((((((V8.setCell ⟨V2.heap.size, 0, none⟩ (.string yf.b0)).setCell ⟨V2.heap.size, 1, none⟩ (.string yf.b1)).setCell ⟨V2.heap.size, 2, none⟩ (.int .i64 yf.e0)).setCell ⟨V2.heap.size, 3, none⟩ (.int .i64 yf.e1)).setCell ⟨V2.heap.size, 4, none⟩ (.int .i64 yf.lim)).setCell ⟨V2.heap.size, 5, none⟩ (.int .i64 ((j : Int) + 1))).setCell ⟨V2.heap.size, 6, none⟩ (.int .u64 (d : Int))).setCell ⟨V2.heap.size, 7, none⟩ (.bool yb)).setCell ⟨V2.heap.size, 8, none⟩ (.int .u64 (yt : Int))) (V2.heap.size) [.string yf.b0, .string yf.b1, .int .i64 yf.e0, .int .i64 yf.e1, .int .i64 yf.lim, .int .i64 ((j : Int) + 1), .int .u64 (d : Int), .bool yb, .int .u64 (yt : Int)] := (((((((((xx.set 0 (.string yf.b0)).set 1 (.string yf.b1)).set 2 (.int .i64 yf.e0)).set 3 (.int .i64 yf.e1)).set 4 (.int .i64 yf.lim)).set 5 (.int .i64 ((j : Int) + 1))).set 6 (.int .u64 (d : Int))).set 7 (.bool yb)).set 8 (.int .u64 (yt : Int)))
              replace hB : Below W.heap.size W (((((((((V8.setCell ⟨V2.heap.size, 0, none⟩ (.string yf.b0)).setCell ⟨V2.heap.size, 1, none⟩ (.string yf.b1)).setCell ⟨V2.heap.size, 2, none⟩ (.int .i64 yf.e0)).setCell ⟨V2.heap.size, 3, none⟩ (.int .i64 yf.e1)).setCell ⟨V2.heap.size, 4, none⟩ (.int .i64 yf.lim)).setCell ⟨V2.heap.size, 5, none⟩ (.int .i64 ((j : Int) + 1))).setCell ⟨V2.heap.size, 6, none⟩ (.int .u64 (d : Int))).setCell ⟨V2.heap.size, 7, none⟩ (.bool yb)).setCell ⟨V2.heap.size, 8, none⟩ (.int .u64 (yt : Int))) := (((((((((hB.setCell le_xx _).setCell le_xx _).setCell le_xx _).setCell le_xx _).setCell le_xx _).setCell le_xx _).setCell le_xx _).setCell le_xx _).setCell le_xx _)
              generalize (((((((((V8.setCell ⟨V2.heap.size, 0, none⟩ (.string yf.b0)).setCell ⟨V2.heap.size, 1, none⟩ (.string yf.b1)).setCell ⟨V2.heap.size, 2, none⟩ (.int .i64 yf.e0)).setCell ⟨V2.heap.size, 3, none⟩ (.int .i64 yf.e1)).setCell ⟨V2.heap.size, 4, none⟩ (.int .i64 yf.lim)).setCell ⟨V2.heap.size, 5, none⟩ (.int .i64 ((j : Int) + 1))).setCell ⟨V2.heap.size, 6, none⟩ (.int .u64 (d : Int))).setCell ⟨V2.heap.size, 7, none⟩ (.bool yb)).setCell ⟨V2.heap.size, 8, none⟩ (.int .u64 (yt : Int))) = V9 at *
              have xx0 := xx.cell 0 rfl
              have xxz0 := xx.frozen 0
              have xx1 := xx.cell 1 rfl
              have xxz1 := xx.frozen 1
              have xx2 := xx.cell 2 rfl
              have xxz2 := xx.frozen 2
              have xx3 := xx.cell 3 rfl
              have xxz3 := xx.frozen 3
              have xx4 := xx.cell 4 rfl
              have xxz4 := xx.frozen 4
              have xx5 := xx.cell 5 rfl
              have xxz5 := xx.frozen 5
              have xx6 := xx.cell 6 rfl
              have xxz6 := xx.frozen 6
              have xx7 := xx.cell 7 rfl
              have xxz7 := xx.frozen 7
              have xx8 := xx.cell 8 rfl
              have xxz8 := xx.frozen 8
              have xy0 := xy.cell 0 rfl
              have xyz0 := xy.frozen 0
              have xy1 := xy.cell 1 rfl
              have xyz1 := xy.frozen 1
              have xy2 := xy.cell 2 rfl
              have xyz2 := xy.frozen 2
              have xy3 := xy.cell 3 rfl
              have xyz3 := xy.frozen 3
              have xy4 := xy.cell 4 rfl
              have xyz4 := xy.frozen 4
              have xy5 := xy.cell 5 rfl
              have xyz5 := xy.frozen 5
              have xy6 := xy.cell 6 rfl
              have xyz6 := xy.frozen 6
              have xy7 := xy.cell 7 rfl
              have xyz7 := xy.frozen 7
              have xy8 := xy.cell 8 rfl
              have xyz8 := xy.frozen 8
              clear xx0 xxz0 xx1 xxz1 xx2 xxz2 xx3 xxz3 xx4 xxz4 xx5 xxz5 xx6 xxz6 xx7 xxz7 xx8 xxz8 xy0 xyz0 xy1 xyz1 xy2 xyz2 xy3 xyz3 xy4 xyz4 xy5 xyz5 xy6 xyz6 xy7 xyz7 xy8 xyz8
              go_roundw
              case rel => exact ⟨j + 1, ⟨yf, (j : Int) + 1, d, yb, yt⟩, by omega, by go_num, by omega, s3.out, hyf, ⟨by show (0 : Int) ≤ (j : Int) + 1; omega, by show (j : Int) + 1 ≤ 1000; omega⟩, xx, hB⟩
              case measure => simp [intOf]; omega
          · have xx0 := xx.cell 0 rfl
            have xxz0 := xx.frozen 0
            have xx1 := xx.cell 1 rfl
            have xxz1 := xx.frozen 1
            have xx2 := xx.cell 2 rfl
            have xxz2 := xx.frozen 2
            have xx3 := xx.cell 3 rfl
            have xxz3 := xx.frozen 3
            have xx4 := xx.cell 4 rfl
            have xxz4 := xx.frozen 4
            have xx5 := xx.cell 5 rfl
            have xxz5 := xx.frozen 5
            have xx6 := xx.cell 6 rfl
            have xxz6 := xx.frozen 6
            have xx7 := xx.cell 7 rfl
            have xxz7 := xx.frozen 7
            have xx8 := xx.cell 8 rfl
            have xxz8 := xx.frozen 8
            go_simp
            try go_wp2_with fail
            clear xx0 xxz0 xx1 xxz1 xx2 xxz2 xx3 xxz3 xx4 xxz4 xx5 xxz5 xx6 xxz6 xx7 xxz7 xx8 xxz8
            have xy := Box.new 33 V3 [.string ⟨#[]⟩, .string ⟨#[]⟩, .int .i64 0, .int .i64 0, .int .i64 0, .int .i64 0, .int .u64 0, .bool false, .int .u64 0]
            have ne_xy_xx : V3.heap.size ≠ V2.heap.size := Nat.ne_of_gt xx.lt
            have le_xy : W.heap.size ≤ V3.heap.size := hB.size
            replace xx := xx.alloc (.cells #[.string ⟨#[]⟩, .string ⟨#[]⟩, .int .i64 0, .int .i64 0, .int .i64 0, .int .i64 0, .int .u64 0, .bool false, .int .u64 0] 33)
            replace hB := hB.alloc hB.size (.cells #[.string ⟨#[]⟩, .string ⟨#[]⟩, .int .i64 0, .int .i64 0, .int .i64 0, .int .i64 0, .int .u64 0, .bool false, .int .u64 0] 33)
            have xx0 := xx.cell 0 rfl
            have xxz0 := xx.frozen 0
            have xx1 := xx.cell 1 rfl
            have xxz1 := xx.frozen 1
            have xx2 := xx.cell 2 rfl
            have xxz2 := xx.frozen 2
            have xx3 := xx.cell 3 rfl
            have xxz3 := xx.frozen 3
            have xx4 := xx.cell 4 rfl
            have xxz4 := xx.frozen 4
            have xx5 := xx.cell 5 rfl
            have xxz5 := xx.frozen 5
            have xx6 := xx.cell 6 rfl
            have xxz6 := xx.frozen 6
            have xx7 := xx.cell 7 rfl
            have xxz7 := xx.frozen 7
            have xx8 := xx.cell 8 rfl
            have xxz8 := xx.frozen 8
            have xy0 := xy.cell 0 rfl
            have xyz0 := xy.frozen 0
            have xy1 := xy.cell 1 rfl
            have xyz1 := xy.frozen 1
            have xy2 := xy.cell 2 rfl
            have xyz2 := xy.frozen 2
            have xy3 := xy.cell 3 rfl
            have xyz3 := xy.frozen 3
            have xy4 := xy.cell 4 rfl
            have xyz4 := xy.frozen 4
            have xy5 := xy.cell 5 rfl
            have xyz5 := xy.frozen 5
            have xy6 := xy.cell 6 rfl
            have xyz6 := xy.frozen 6
            have xy7 := xy.cell 7 rfl
            have xyz7 := xy.frozen 7
            have xy8 := xy.cell 8 rfl
            have xyz8 := xy.frozen 8
            generalize (V3.alloc (.cells #[.string ⟨#[]⟩, .string ⟨#[]⟩, .int .i64 0, .int .i64 0, .int .i64 0, .int .i64 0, .int .u64 0, .bool false, .int .u64 0] 33)) = V4 at *
            generalize V3.heap.size = g_xy at *
            clear xx0 xxz0 xx1 xxz1 xx2 xxz2 xx3 xxz3 xx4 xxz4 xx5 xxz5 xx6 xxz6 xx7 xxz7 xx8 xxz8 xy0 xyz0 xy1 xyz1 xy2 xyz2 xy3 xyz3 xy4 xyz4 xy5 xyz5 xy6 xyz6 xy7 xyz7 xy8 xyz8
            clear hHeld
            refine hK.out _ _ ?_ (fun hHeld => ?_)
            · exact ⟨xx.cell 0 rfl, xx.cell 1 rfl, xx.cell 2 rfl, xx.cell 3 rfl, xx.cell 4 rfl, xx.cell 5 rfl, xx.cell 6 rfl, xx.cell 7 rfl, xx.cell 8 rfl, HC.out _ hB⟩
            clear hK K
            try simp only [Act.put, List.getElem_toArray, List.getElem_cons_zero, List.getElem_cons_succ, List.setIfInBounds_toArray, List.set_cons_zero, List.set_cons_succ]
            refine wpAnyH_ready (rs := [5]) (by kernel_rfl) (by simp) ?_
            refine AllReadyH.cons rfl (fun K hK => ?_) (AllReadyH.nil)
            have xx0 := xx.cell 0 rfl
            have xxz0 := xx.frozen 0
            have xx1 := xx.cell 1 rfl
            have xxz1 := xx.frozen 1
            have xx2 := xx.cell 2 rfl
            have xxz2 := xx.frozen 2
            have xx3 := xx.cell 3 rfl
            have xxz3 := xx.frozen 3
            have xx4 := xx.cell 4 rfl
            have xxz4 := xx.frozen 4
            have xx5 := xx.cell 5 rfl
            have xxz5 := xx.frozen 5
            have xx6 := xx.cell 6 rfl
            have xxz6 := xx.frozen 6
            have xx7 := xx.cell 7 rfl
            have xxz7 := xx.frozen 7
            have xx8 := xx.cell 8 rfl
            have xxz8 := xx.frozen 8
            have xy0 := xy.cell 0 rfl
            have xyz0 := xy.frozen 0
            have xy1 := xy.cell 1 rfl
            have xyz1 := xy.frozen 1
            have xy2 := xy.cell 2 rfl
            have xyz2 := xy.frozen 2
            have xy3 := xy.cell 3 rfl
            have xyz3 := xy.frozen 3
            have xy4 := xy.cell 4 rfl
            have xyz4 := xy.frozen 4
            have xy5 := xy.cell 5 rfl
            have xyz5 := xy.frozen 5
            have xy6 := xy.cell 6 rfl
            have xyz6 := xy.frozen 6
            have xy7 := xy.cell 7 rfl
            have xyz7 := xy.frozen 7
            have xy8 := xy.cell 8 rfl
            have xyz8 := xy.frozen 8
            go_simp
            try go_wp2_with fail
            clear xx0 xxz0 xx1 xxz1 xx2 xxz2 xx3 xxz3 xx4 xxz4 xx5 xxz5 xx6 xxz6 xx7 xxz7 xx8 xxz8 xy0 xyz0 xy1 xyz1 xy2 xyz2 xy3 xyz3 xy4 xyz4 xy5 xyz5 xy6 xyz6 xy7 xyz7 xy8 xyz8
            clear hHeld
            refine hK.out _ _ ?_ (fun hHeld => ?_)
            · exact ⟨xx.cell 0 rfl, xx.cell 1 rfl, xx.cell 2 rfl, xx.cell 3 rfl, xx.cell 4 rfl, xx.cell 5 rfl, xx.cell 6 rfl, xx.cell 7 rfl, xx.cell 8 rfl, HC.out _ hB⟩
            clear hK K
            try simp only [Act.put, List.getElem_toArray, List.getElem_cons_zero, List.getElem_cons_succ, List.setIfInBounds_toArray, List.set_cons_zero, List.set_cons_succ]
            refine wpAnyH_ready (rs := [6]) (by kernel_rfl) (by simp) ?_
            refine AllReadyH.cons rfl (fun K hK => ?_) (AllReadyH.nil)
            have xx0 := xx.cell 0 rfl
            have xxz0 := xx.frozen 0
            have xx1 := xx.cell 1 rfl
            have xxz1 := xx.frozen 1
            have xx2 := xx.cell 2 rfl
            have xxz2 := xx.frozen 2
            have xx3 := xx.cell 3 rfl
            have xxz3 := xx.frozen 3
            have xx4 := xx.cell 4 rfl
            have xxz4 := xx.frozen 4
            have xx5 := xx.cell 5 rfl
            have xxz5 := xx.frozen 5
            have xx6 := xx.cell 6 rfl
            have xxz6 := xx.frozen 6
            have xx7 := xx.cell 7 rfl
            have xxz7 := xx.frozen 7
            have xx8 := xx.cell 8 rfl
            have xxz8 := xx.frozen 8
            have xy0 := xy.cell 0 rfl
            have xyz0 := xy.frozen 0
            have xy1 := xy.cell 1 rfl
            have xyz1 := xy.frozen 1
            have xy2 := xy.cell 2 rfl
            have xyz2 := xy.frozen 2
            have xy3 := xy.cell 3 rfl
            have xyz3 := xy.frozen 3
            have xy4 := xy.cell 4 rfl
            have xyz4 := xy.frozen 4
            have xy5 := xy.cell 5 rfl
            have xyz5 := xy.frozen 5
            have xy6 := xy.cell 6 rfl
            have xyz6 := xy.frozen 6
            have xy7 := xy.cell 7 rfl
            have xyz7 := xy.frozen 7
            have xy8 := xy.cell 8 rfl
            have xyz8 := xy.frozen 8
            go_simp
            refine (TP.out _).mono ?_
            rintro e V5 ⟨rfl, hk⟩
            clear xx0 xxz0 xx1 xxz1 xx2 xxz2 xx3 xxz3 xx4 xxz4 xx5 xxz5 xx6 xxz6 xx7 xxz7 xx8 xxz8 xy0 xyz0 xy1 xyz1 xy2 xyz2 xy3 xyz3 xy4 xyz4 xy5 xyz5 xy6 xyz6 xy7 xyz7 xy8 xyz8
            replace hB := below_seq hB hk
            replace xx := xx.seq hk
            replace xy := xy.seq hk
            clear hk
            have xx0 := xx.cell 0 rfl
            have xxz0 := xx.frozen 0
            have xx1 := xx.cell 1 rfl
            have xxz1 := xx.frozen 1
            have xx2 := xx.cell 2 rfl
            have xxz2 := xx.frozen 2
            have xx3 := xx.cell 3 rfl
            have xxz3 := xx.frozen 3
            have xx4 := xx.cell 4 rfl
            have xxz4 := xx.frozen 4
            have xx5 := xx.cell 5 rfl
            have xxz5 := xx.frozen 5
            have xx6 := xx.cell 6 rfl
            have xxz6 := xx.frozen 6
            have xx7 := xx.cell 7 rfl
            have xxz7 := xx.frozen 7
            have xx8 := xx.cell 8 rfl
            have xxz8 := xx.frozen 8
            have xy0 := xy.cell 0 rfl
            have xyz0 := xy.frozen 0
            have xy1 := xy.cell 1 rfl
            have xyz1 := xy.frozen 1
            have xy2 := xy.cell 2 rfl
            have xyz2 := xy.frozen 2
            have xy3 := xy.cell 3 rfl
            have xyz3 := xy.frozen 3
            have xy4 := xy.cell 4 rfl
            have xyz4 := xy.frozen 4
            have xy5 := xy.cell 5 rfl
            have xyz5 := xy.frozen 5
            have xy6 := xy.cell 6 rfl
            have xyz6 := xy.frozen 6
            have xy7 := xy.cell 7 rfl
            have xyz7 := xy.frozen 7
            have xy8 := xy.cell 8 rfl
            have xyz8 := xy.frozen 8
            try go_wp2_with fail
            clear xx0 xxz0 xx1 xxz1 xx2 xxz2 xx3 xxz3 xx4 xxz4 xx5 xxz5 xx6 xxz6 xx7 xxz7 xx8 xxz8 xy0 xyz0 xy1 xyz1 xy2 xyz2 xy3 xyz3 xy4 xyz4 xy5 xyz5 xy6 xyz6 xy7 xyz7 xy8 xyz8
            clear hHeld
            refine hK.out _ _ ?_ (fun hHeld => ?_)
            · exact ⟨xx.cell 0 rfl, xx.cell 1 rfl, xx.cell 2 rfl, xx.cell 3 rfl, xx.cell 4 rfl, xx.cell 5 rfl, xx.cell 6 rfl, xx.cell 7 rfl, xx.cell 8 rfl, HC.out _ hB⟩
            clear hK K
            try simp only [Act.put, List.getElem_toArray, List.getElem_cons_zero, List.getElem_cons_succ, List.setIfInBounds_toArray, List.set_cons_zero, List.set_cons_succ]
            refine wpAnyH_ready (rs := [8]) (by kernel_rfl) (by simp) ?_
            refine AllReadyH.cons rfl (fun K hK => ?_) (AllReadyH.nil)
            have xx0 := xx.cell 0 rfl
            have xxz0 := xx.frozen 0
            have xx1 := xx.cell 1 rfl
            have xxz1 := xx.frozen 1
            have xx2 := xx.cell 2 rfl
            have xxz2 := xx.frozen 2
            have xx3 := xx.cell 3 rfl
            have xxz3 := xx.frozen 3
            have xx4 := xx.cell 4 rfl
            have xxz4 := xx.frozen 4
            have xx5 := xx.cell 5 rfl
            have xxz5 := xx.frozen 5
            have xx6 := xx.cell 6 rfl
            have xxz6 := xx.frozen 6
            have xx7 := xx.cell 7 rfl
            have xxz7 := xx.frozen 7
            have xx8 := xx.cell 8 rfl
            have xxz8 := xx.frozen 8
            have xy0 := xy.cell 0 rfl
            have xyz0 := xy.frozen 0
            have xy1 := xy.cell 1 rfl
            have xyz1 := xy.frozen 1
            have xy2 := xy.cell 2 rfl
            have xyz2 := xy.frozen 2
            have xy3 := xy.cell 3 rfl
            have xyz3 := xy.frozen 3
            have xy4 := xy.cell 4 rfl
            have xyz4 := xy.frozen 4
            have xy5 := xy.cell 5 rfl
            have xyz5 := xy.frozen 5
            have xy6 := xy.cell 6 rfl
            have xyz6 := xy.frozen 6
            have xy7 := xy.cell 7 rfl
            have xyz7 := xy.frozen 7
            have xy8 := xy.cell 8 rfl
            have xyz8 := xy.frozen 8
            go_simp
            try go_wp2_with fail
            clear xx0 xxz0 xx1 xxz1 xx2 xxz2 xx3 xxz3 xx4 xxz4 xx5 xxz5 xx6 xxz6 xx7 xxz7 xx8 xxz8 xy0 xyz0 xy1 xyz1 xy2 xyz2 xy3 xyz3 xy4 xyz4 xy5 xyz5 xy6 xyz6 xy7 xyz7 xy8 xyz8
            replace xx : Box 33 (((((((((V5.setCell ⟨g_xy, 0, none⟩ (.string yf.b0)).setCell ⟨g_xy, 1, none⟩ (.string yf.b1)).setCell ⟨g_xy, 2, none⟩ (.int .i64 yf.e0)).setCell ⟨g_xy, 3, none⟩ (.int .i64 yf.e1)).setCell ⟨g_xy, 4, none⟩ (.int .i64 yf.lim)).setCell ⟨g_xy, 5, none⟩ (.int .i64 ((j : Int) + 1))).setCell ⟨g_xy, 6, none⟩ (.int .u64 (d : Int))).setCell ⟨g_xy, 7, none⟩ (.bool yb)).setCell ⟨g_xy, 8, none⟩ (.int .u64 (yt : Int))) (V2.heap.size) [.string x.f.b0, .string x.f.b1, .int .i64 x.f.e0, .int .i64 x.f.e1, .int .i64 x.f.lim, .int .i64 x.acked, .int .u64 (x.last : Int), .bool x.flying, .int .u64 (x.flight : Int)] := (((((((((xx.other ne_xy_xx 0 (.string yf.b0)).other ne_xy_xx 1 (.string yf.b1)).other ne_xy_xx 2 (.int .i64 yf.e0)).other ne_xy_xx 3 (.int .i64 yf.e1)).other ne_xy_xx 4 (.int .i64 yf.lim)).other ne_xy_xx 5 (.int .i64 ((j : Int) + 1))).other ne_xy_xx 6 (.int .u64 (d : Int))).other ne_xy_xx 7 (.bool yb)).other ne_xy_xx 8 (.int .u64 (yt : Int)))
            replace xy : Box 33 (((((((((V5.setCell ⟨g_xy, 0, none⟩ (.string yf.b0)).setCell ⟨g_xy, 1, none⟩ (.string yf.b1)).setCell ⟨g_xy, 2, none⟩ (.int .i64 yf.e0)).setCell ⟨g_xy, 3, none⟩ (.int .i64 yf.e1)).setCell ⟨g_xy, 4, none⟩ (.int .i64 yf.lim)).setCell ⟨g_xy, 5, none⟩ (.int .i64 ((j : Int) + 1))).setCell ⟨g_xy, 6, none⟩ (.int .u64 (d : Int))).setCell ⟨g_xy, 7, none⟩ (.bool yb)).setCell ⟨g_xy, 8, none⟩ (.int .u64 (yt : Int))) (g_xy) [.string yf.b0, .string yf.b1, .int .i64 yf.e0, .int .i64 yf.e1, .int .i64 yf.lim, .int .i64 ((j : Int) + 1), .int .u64 (d : Int), .bool yb, .int .u64 (yt : Int)] := (((((((((xy.set 0 (.string yf.b0)).set 1 (.string yf.b1)).set 2 (.int .i64 yf.e0)).set 3 (.int .i64 yf.e1)).set 4 (.int .i64 yf.lim)).set 5 (.int .i64 ((j : Int) + 1))).set 6 (.int .u64 (d : Int))).set 7 (.bool yb)).set 8 (.int .u64 (yt : Int)))
            replace hB : Below W.heap.size W (((((((((V5.setCell ⟨g_xy, 0, none⟩ (.string yf.b0)).setCell ⟨g_xy, 1, none⟩ (.string yf.b1)).setCell ⟨g_xy, 2, none⟩ (.int .i64 yf.e0)).setCell ⟨g_xy, 3, none⟩ (.int .i64 yf.e1)).setCell ⟨g_xy, 4, none⟩ (.int .i64 yf.lim)).setCell ⟨g_xy, 5, none⟩ (.int .i64 ((j : Int) + 1))).setCell ⟨g_xy, 6, none⟩ (.int .u64 (d : Int))).setCell ⟨g_xy, 7, none⟩ (.bool yb)).setCell ⟨g_xy, 8, none⟩ (.int .u64 (yt : Int))) := (((((((((hB.setCell le_xy _).setCell le_xy _).setCell le_xy _).setCell le_xy _).setCell le_xy _).setCell le_xy _).setCell le_xy _).setCell le_xy _).setCell le_xy _)
            generalize (((((((((V5.setCell ⟨g_xy, 0, none⟩ (.string yf.b0)).setCell ⟨g_xy, 1, none⟩ (.string yf.b1)).setCell ⟨g_xy, 2, none⟩ (.int .i64 yf.e0)).setCell ⟨g_xy, 3, none⟩ (.int .i64 yf.e1)).setCell ⟨g_xy, 4, none⟩ (.int .i64 yf.lim)).setCell ⟨g_xy, 5, none⟩ (.int .i64 ((j : Int) + 1))).setCell ⟨g_xy, 6, none⟩ (.int .u64 (d : Int))).setCell ⟨g_xy, 7, none⟩ (.bool yb)).setCell ⟨g_xy, 8, none⟩ (.int .u64 (yt : Int))) = V6 at *
            clear hHeld
            refine hK.out _ _ ?_ (fun hHeld => ?_)
            · exact ⟨xx.cell 0 rfl, xx.cell 1 rfl, xx.cell 2 rfl, xx.cell 3 rfl, xx.cell 4 rfl, xx.cell 5 rfl, xx.cell 6 rfl, xx.cell 7 rfl, xx.cell 8 rfl, HC.out _ hB⟩
            clear hK K
            try simp only [Act.put, List.getElem_toArray, List.getElem_cons_zero, List.getElem_cons_succ, List.setIfInBounds_toArray, List.set_cons_zero, List.set_cons_succ]
            refine wpAnyH_done (by kernel_rfl) ?_ _
            clear hHeld
            have xx0 := xx.cell 0 rfl
            have xxz0 := xx.frozen 0
            have xx1 := xx.cell 1 rfl
            have xxz1 := xx.frozen 1
            have xx2 := xx.cell 2 rfl
            have xxz2 := xx.frozen 2
            have xx3 := xx.cell 3 rfl
            have xxz3 := xx.frozen 3
            have xx4 := xx.cell 4 rfl
            have xxz4 := xx.frozen 4
            have xx5 := xx.cell 5 rfl
            have xxz5 := xx.frozen 5
            have xx6 := xx.cell 6 rfl
            have xxz6 := xx.frozen 6
            have xx7 := xx.cell 7 rfl
            have xxz7 := xx.frozen 7
            have xx8 := xx.cell 8 rfl
            have xxz8 := xx.frozen 8
            have xy0 := xy.cell 0 rfl
            have xyz0 := xy.frozen 0
            have xy1 := xy.cell 1 rfl
            have xyz1 := xy.frozen 1
            have xy2 := xy.cell 2 rfl
            have xyz2 := xy.frozen 2
            have xy3 := xy.cell 3 rfl
            have xyz3 := xy.frozen 3
            have xy4 := xy.cell 4 rfl
            have xyz4 := xy.frozen 4
            have xy5 := xy.cell 5 rfl
            have xyz5 := xy.frozen 5
            have xy6 := xy.cell 6 rfl
            have xyz6 := xy.frozen 6
            have xy7 := xy.cell 7 rfl
            have xyz7 := xy.frozen 7
            have xy8 := xy.cell 8 rfl
            have xyz8 := xy.frozen 8
            go_wp2_with fail
            clear xx0 xxz0 xx1 xxz1 xx2 xxz2 xx3 xxz3 xx4 xxz4 xx5 xxz5 xx6 xxz6 xx7 xxz7 xx8 xxz8 xy0 xyz0 xy1 xyz1 xy2 xyz2 xy3 xyz3 xy4 xyz4 xy5 xyz5 xy6 xyz6 xy7 xyz7 xy8 xyz8
            replace hB := hB.drew
            replace xx := xx.drew
            replace xy := xy.drew
            refine wp_region_held_drew (S := fun w' => w'.cell? ⟨g_xy, 0, none⟩ = some (.string yf.b0) ∧ w'.cell? ⟨g_xy, 1, none⟩ = some (.string yf.b1) ∧ w'.cell? ⟨g_xy, 2, none⟩ = some (.int .i64 yf.e0) ∧ w'.cell? ⟨g_xy, 3, none⟩ = some (.int .i64 yf.e1) ∧ w'.cell? ⟨g_xy, 4, none⟩ = some (.int .i64 yf.lim) ∧ w'.cell? ⟨g_xy, 5, none⟩ = some (.int .i64 ((j : Int) + 1)) ∧ w'.cell? ⟨g_xy, 6, none⟩ = some (.int .u64 (d : Int)) ∧ w'.cell? ⟨g_xy, 7, none⟩ = some (.bool yb) ∧ w'.cell? ⟨g_xy, 8, none⟩ = some (.int .u64 (yt : Int)) ∧ w'.cell? ⟨g, off + j, none⟩ = some (.int .u64 (d : Int))) (by kernel_rfl) ?_ (fun hHeld => ?_)
            · exact ⟨xy.cell 0 rfl, xy.cell 1 rfl, xy.cell 2 rfl, xy.cell 3 rfl, xy.cell 4 rfl, xy.cell 5 rfl, xy.cell 6 rfl, xy.cell 7 rfl, xy.cell 8 rfl, HC.out _ hB⟩
            generalize V6.drew = V7 at *
            refine wpAnyH_take (i := 0) (v := ?_) rfl (by kernel_rfl) (by kernel_rfl) (by kernel_rfl) (fun _ _ _ h => h) (Or.inl ⟨by rfl, ?_⟩) (by assumption) ?_
            rotate_left
            · intro w hSw; (try dsimp only at hSw); go_simp; try with_reducible rfl
            try simp only [Act.put, List.getElem_toArray, List.getElem_cons_zero, List.getElem_cons_succ, List.setIfInBounds_toArray, List.set_cons_zero, List.set_cons_succ]
            refine wpAnyH_take (i := 1) (v := ?_) rfl (by kernel_rfl) (by kernel_rfl) (by kernel_rfl) (fun _ _ _ h => h) (Or.inl ⟨by rfl, ?_⟩) (by assumption) ?_
            rotate_left
            · intro w hSw; (try dsimp only at hSw); go_simp; try with_reducible rfl
            try simp only [Act.put, List.getElem_toArray, List.getElem_cons_zero, List.getElem_cons_succ, List.setIfInBounds_toArray, List.set_cons_zero, List.set_cons_succ]
            refine wpAnyH_take (i := 2) (v := ?_) rfl (by kernel_rfl) (by kernel_rfl) (by kernel_rfl) (fun _ _ _ h => h) (Or.inl ⟨by rfl, ?_⟩) (by assumption) ?_
            rotate_left
            · intro w hSw; (try dsimp only at hSw); go_simp; try with_reducible rfl
            try simp only [Act.put, List.getElem_toArray, List.getElem_cons_zero, List.getElem_cons_succ, List.setIfInBounds_toArray, List.set_cons_zero, List.set_cons_succ]
            refine wpAnyH_take (i := 3) (v := ?_) rfl (by kernel_rfl) (by kernel_rfl) (by kernel_rfl) (fun _ _ _ h => h) (Or.inl ⟨by rfl, ?_⟩) (by assumption) ?_
            rotate_left
            · intro w hSw; (try dsimp only at hSw); go_simp; try with_reducible rfl
            try simp only [Act.put, List.getElem_toArray, List.getElem_cons_zero, List.getElem_cons_succ, List.setIfInBounds_toArray, List.set_cons_zero, List.set_cons_succ]
            refine wpAnyH_take (i := 4) (v := ?_) rfl (by kernel_rfl) (by kernel_rfl) (by kernel_rfl) (fun _ _ _ h => h) (Or.inl ⟨by rfl, ?_⟩) (by assumption) ?_
            rotate_left
            · intro w hSw; (try dsimp only at hSw); go_simp; try with_reducible rfl
            try simp only [Act.put, List.getElem_toArray, List.getElem_cons_zero, List.getElem_cons_succ, List.setIfInBounds_toArray, List.set_cons_zero, List.set_cons_succ]
            refine wpAnyH_take (i := 5) (v := ?_) rfl (by kernel_rfl) (by kernel_rfl) (by kernel_rfl) (fun _ _ _ h => h) (Or.inl ⟨by rfl, ?_⟩) (by assumption) ?_
            rotate_left
            · intro w hSw; (try dsimp only at hSw); go_simp; try with_reducible rfl
            try simp only [Act.put, List.getElem_toArray, List.getElem_cons_zero, List.getElem_cons_succ, List.setIfInBounds_toArray, List.set_cons_zero, List.set_cons_succ]
            refine wpAnyH_take (i := 6) (v := ?_) rfl (by kernel_rfl) (by kernel_rfl) (by kernel_rfl) (fun _ _ _ h => h) (Or.inl ⟨by rfl, ?_⟩) (by assumption) ?_
            rotate_left
            · intro w hSw; (try dsimp only at hSw); go_simp; try with_reducible rfl
            try simp only [Act.put, List.getElem_toArray, List.getElem_cons_zero, List.getElem_cons_succ, List.setIfInBounds_toArray, List.set_cons_zero, List.set_cons_succ]
            refine wpAnyH_take (i := 7) (v := ?_) rfl (by kernel_rfl) (by kernel_rfl) (by kernel_rfl) (fun _ _ _ h => h) (Or.inl ⟨by rfl, ?_⟩) (by assumption) ?_
            rotate_left
            · intro w hSw; (try dsimp only at hSw); go_simp; try with_reducible rfl
            try simp only [Act.put, List.getElem_toArray, List.getElem_cons_zero, List.getElem_cons_succ, List.setIfInBounds_toArray, List.set_cons_zero, List.set_cons_succ]
            refine wpAnyH_take (i := 8) (v := ?_) rfl (by kernel_rfl) (by kernel_rfl) (by kernel_rfl) (fun _ _ _ h => h) (Or.inl ⟨by rfl, ?_⟩) (by assumption) ?_
            rotate_left
            · intro w hSw; (try dsimp only at hSw); go_simp; try with_reducible rfl
            try simp only [Act.put, List.getElem_toArray, List.getElem_cons_zero, List.getElem_cons_succ, List.setIfInBounds_toArray, List.set_cons_zero, List.set_cons_succ]
            refine wpAnyH_take (i := 9) (v := ?_) rfl (by kernel_rfl) (by kernel_rfl) (by kernel_rfl) (fun _ _ _ h => h) (Or.inl ⟨by rfl, ?_⟩) (by assumption) ?_
            rotate_left
            · intro w hSw; (try dsimp only at hSw); go_simp; try with_reducible rfl
            try simp only [Act.put, List.getElem_toArray, List.getElem_cons_zero, List.getElem_cons_succ, List.setIfInBounds_toArray, List.set_cons_zero, List.set_cons_succ]
            refine wpAnyH_take (i := 10) (v := ?_) rfl (by kernel_rfl) (by kernel_rfl) (by kernel_rfl) (fun _ _ _ h => h) (Or.inl ⟨by rfl, ?_⟩) (by assumption) ?_
            rotate_left
            · intro w hSw; (try dsimp only at hSw); go_simp; try with_reducible rfl
            try simp only [Act.put, List.getElem_toArray, List.getElem_cons_zero, List.getElem_cons_succ, List.setIfInBounds_toArray, List.set_cons_zero, List.set_cons_succ]
            refine wpAnyH_take (i := 11) (v := ?_) rfl (by kernel_rfl) (by kernel_rfl) (by kernel_rfl) (fun _ _ _ h => h) (Or.inl ⟨by rfl, ?_⟩) (by assumption) ?_
            rotate_left
            · intro w hSw; (try dsimp only at hSw); go_simp; try with_reducible rfl
            try simp only [Act.put, List.getElem_toArray, List.getElem_cons_zero, List.getElem_cons_succ, List.setIfInBounds_toArray, List.set_cons_zero, List.set_cons_succ]
            refine wpAnyH_take (i := 12) (v := ?_) rfl (by kernel_rfl) (by kernel_rfl) (by kernel_rfl) (fun _ _ _ h => h) (Or.inl ⟨by rfl, ?_⟩) (by assumption) ?_
            rotate_left
            · intro w hSw; (try dsimp only at hSw); go_simp; try with_reducible rfl
            try simp only [Act.put, List.getElem_toArray, List.getElem_cons_zero, List.getElem_cons_succ, List.setIfInBounds_toArray, List.set_cons_zero, List.set_cons_succ]
            refine wpAnyH_take (i := 13) (v := ?_) rfl (by kernel_rfl) (by kernel_rfl) (by kernel_rfl) (fun _ _ _ h => h) (Or.inl ⟨by rfl, ?_⟩) (by assumption) ?_
            rotate_left
            · intro w hSw; (try dsimp only at hSw); go_simp; try with_reducible rfl
            try simp only [Act.put, List.getElem_toArray, List.getElem_cons_zero, List.getElem_cons_succ, List.setIfInBounds_toArray, List.set_cons_zero, List.set_cons_succ]
            refine wpAnyH_take (i := 14) (v := ?_) rfl (by kernel_rfl) (by kernel_rfl) (by kernel_rfl) (fun _ _ _ h => h) (Or.inl ⟨by rfl, ?_⟩) (by assumption) ?_
            rotate_left
            · intro w hSw; (try dsimp only at hSw); go_simp; try with_reducible rfl
            try simp only [Act.put, List.getElem_toArray, List.getElem_cons_zero, List.getElem_cons_succ, List.setIfInBounds_toArray, List.set_cons_zero, List.set_cons_succ]
            refine wpAnyH_take (i := 15) (v := ?_) rfl (by kernel_rfl) (by kernel_rfl) (by kernel_rfl) (fun _ _ _ h => h) (Or.inl ⟨by rfl, ?_⟩) (by assumption) ?_
            rotate_left
            · intro w hSw; (try dsimp only at hSw); go_simp; try with_reducible rfl
            try simp only [Act.put, List.getElem_toArray, List.getElem_cons_zero, List.getElem_cons_succ, List.setIfInBounds_toArray, List.set_cons_zero, List.set_cons_succ]
            refine wpAnyH_take (i := 16) (v := ?_) rfl (by kernel_rfl) (by kernel_rfl) (by kernel_rfl) (fun _ _ _ h => h) (Or.inl ⟨by rfl, ?_⟩) (by assumption) ?_
            rotate_left
            · intro w hSw; (try dsimp only at hSw); go_simp; try with_reducible rfl
            try simp only [Act.put, List.getElem_toArray, List.getElem_cons_zero, List.getElem_cons_succ, List.setIfInBounds_toArray, List.set_cons_zero, List.set_cons_succ]
            refine wpAnyH_take (i := 18) (v := ?_) rfl (by kernel_rfl) (by kernel_rfl) (by kernel_rfl) (fun _ _ _ h => h) (Or.inl ⟨by rfl, ?_⟩) (by assumption) ?_
            rotate_left
            · intro w hSw; (try dsimp only at hSw); go_simp; try with_reducible rfl
            try simp only [Act.put, List.getElem_toArray, List.getElem_cons_zero, List.getElem_cons_succ, List.setIfInBounds_toArray, List.set_cons_zero, List.set_cons_succ]
            refine wpAnyH_take (i := 19) (v := ?_) rfl (by kernel_rfl) (by kernel_rfl) (by kernel_rfl) (fun _ _ _ h => h) (Or.inl ⟨by rfl, ?_⟩) (by assumption) ?_
            rotate_left
            · intro w hSw; (try dsimp only at hSw); go_simp; try with_reducible rfl
            try simp only [Act.put, List.getElem_toArray, List.getElem_cons_zero, List.getElem_cons_succ, List.setIfInBounds_toArray, List.set_cons_zero, List.set_cons_succ]
            refine wpAnyH_take (i := 20) (v := ?_) rfl (by kernel_rfl) (by kernel_rfl) (by kernel_rfl) (fun _ _ _ h => h) (Or.inl ⟨by rfl, ?_⟩) (by assumption) ?_
            rotate_left
            · intro w hSw; (try dsimp only at hSw); go_simp; try with_reducible rfl
            try simp only [Act.put, List.getElem_toArray, List.getElem_cons_zero, List.getElem_cons_succ, List.setIfInBounds_toArray, List.set_cons_zero, List.set_cons_succ]
            refine wpAnyH_take (i := 21) (v := ?_) rfl (by kernel_rfl) (by kernel_rfl) (by kernel_rfl) (fun _ _ _ h => h) (Or.inl ⟨by rfl, ?_⟩) (by assumption) ?_
            rotate_left
            · intro w hSw; (try dsimp only at hSw); go_simp; try with_reducible rfl
            try simp only [Act.put, List.getElem_toArray, List.getElem_cons_zero, List.getElem_cons_succ, List.setIfInBounds_toArray, List.set_cons_zero, List.set_cons_succ]
            refine wpAnyH_ready (rs := [17]) (by kernel_rfl) (by simp) ?_
            refine AllReadyH.cons rfl (fun K hK => ?_) AllReadyH.nil
            have xx0 := xx.cell 0 rfl
            have xxz0 := xx.frozen 0
            have xx1 := xx.cell 1 rfl
            have xxz1 := xx.frozen 1
            have xx2 := xx.cell 2 rfl
            have xxz2 := xx.frozen 2
            have xx3 := xx.cell 3 rfl
            have xxz3 := xx.frozen 3
            have xx4 := xx.cell 4 rfl
            have xxz4 := xx.frozen 4
            have xx5 := xx.cell 5 rfl
            have xxz5 := xx.frozen 5
            have xx6 := xx.cell 6 rfl
            have xxz6 := xx.frozen 6
            have xx7 := xx.cell 7 rfl
            have xxz7 := xx.frozen 7
            have xx8 := xx.cell 8 rfl
            have xxz8 := xx.frozen 8
            have xy0 := xy.cell 0 rfl
            have xyz0 := xy.frozen 0
            have xy1 := xy.cell 1 rfl
            have xyz1 := xy.frozen 1
            have xy2 := xy.cell 2 rfl
            have xyz2 := xy.frozen 2
            have xy3 := xy.cell 3 rfl
            have xyz3 := xy.frozen 3
            have xy4 := xy.cell 4 rfl
            have xyz4 := xy.frozen 4
            have xy5 := xy.cell 5 rfl
            have xyz5 := xy.frozen 5
            have xy6 := xy.cell 6 rfl
            have xyz6 := xy.frozen 6
            have xy7 := xy.cell 7 rfl
            have xyz7 := xy.frozen 7
            have xy8 := xy.cell 8 rfl
            have xyz8 := xy.frozen 8
            go_simp
            refine (TW.out _).mono ?_
            rintro e V8 ⟨rfl, hk⟩
            clear xx0 xxz0 xx1 xxz1 xx2 xxz2 xx3 xxz3 xx4 xxz4 xx5 xxz5 xx6 xxz6 xx7 xxz7 xx8 xxz8 xy0 xyz0 xy1 xyz1 xy2 xyz2 xy3 xyz3 xy4 xyz4 xy5 xyz5 xy6 xyz6 xy7 xyz7 xy8 xyz8
            replace hB := below_seq hB hk
            replace xx := xx.seq hk
            replace xy := xy.seq hk
            clear hk
            have xx0 := xx.cell 0 rfl
            have xxz0 := xx.frozen 0
            have xx1 := xx.cell 1 rfl
            have xxz1 := xx.frozen 1
            have xx2 := xx.cell 2 rfl
            have xxz2 := xx.frozen 2
            have xx3 := xx.cell 3 rfl
            have xxz3 := xx.frozen 3
            have xx4 := xx.cell 4 rfl
            have xxz4 := xx.frozen 4
            have xx5 := xx.cell 5 rfl
            have xxz5 := xx.frozen 5
            have xx6 := xx.cell 6 rfl
            have xxz6 := xx.frozen 6
            have xx7 := xx.cell 7 rfl
            have xxz7 := xx.frozen 7
            have xx8 := xx.cell 8 rfl
            have xxz8 := xx.frozen 8
            have xy0 := xy.cell 0 rfl
            have xyz0 := xy.frozen 0
            have xy1 := xy.cell 1 rfl
            have xyz1 := xy.frozen 1
            have xy2 := xy.cell 2 rfl
            have xyz2 := xy.frozen 2
            have xy3 := xy.cell 3 rfl
            have xyz3 := xy.frozen 3
            have xy4 := xy.cell 4 rfl
            have xyz4 := xy.frozen 4
            have xy5 := xy.cell 5 rfl
            have xyz5 := xy.frozen 5
            have xy6 := xy.cell 6 rfl
            have xyz6 := xy.frozen 6
            have xy7 := xy.cell 7 rfl
            have xyz7 := xy.frozen 7
            have xy8 := xy.cell 8 rfl
            have xyz8 := xy.frozen 8
            try go_wp2_with fail
            clear xx0 xxz0 xx1 xxz1 xx2 xxz2 xx3 xxz3 xx4 xxz4 xx5 xxz5 xx6 xxz6 xx7 xxz7 xx8 xxz8 xy0 xyz0 xy1 xyz1 xy2 xyz2 xy3 xyz3 xy4 xyz4 xy5 xyz5 xy6 xyz6 xy7 xyz7 xy8 xyz8
            clear hHeld
            refine hK.out _ _ ?_ (fun hHeld => ?_)
            · exact ⟨xy.cell 0 rfl, xy.cell 1 rfl, xy.cell 2 rfl, xy.cell 3 rfl, xy.cell 4 rfl, xy.cell 5 rfl, xy.cell 6 rfl, xy.cell 7 rfl, xy.cell 8 rfl, HC.out _ hB⟩
            clear hK K
            try simp only [Act.put, List.getElem_toArray, List.getElem_cons_zero, List.getElem_cons_succ, List.setIfInBounds_toArray, List.set_cons_zero, List.set_cons_succ]
            refine wpAnyH_take (i := 22) (v := ?_) rfl (by kernel_rfl) (by kernel_rfl) (by kernel_rfl) (fun _ _ _ h => h) (Or.inl ⟨by rfl, ?_⟩) (by assumption) ?_
            rotate_left
            · intro w hSw; (try dsimp only at hSw); go_simp; try with_reducible rfl
            try simp only [Act.put, List.getElem_toArray, List.getElem_cons_zero, List.getElem_cons_succ, List.setIfInBounds_toArray, List.set_cons_zero, List.set_cons_succ]
            refine wpAnyH_take (i := 23) (v := ?_) rfl (by kernel_rfl) (by kernel_rfl) (by kernel_rfl) (fun _ _ _ h => h) (Or.inl ⟨by rfl, ?_⟩) (by assumption) ?_
            rotate_left
            · intro w hSw; (try dsimp only at hSw); go_simp; try with_reducible rfl
            try simp only [Act.put, List.getElem_toArray, List.getElem_cons_zero, List.getElem_cons_succ, List.setIfInBounds_toArray, List.set_cons_zero, List.set_cons_succ]
            refine wpAnyH_done (by kernel_rfl) ?_ _
            clear hHeld
            have xx0 := xx.cell 0 rfl
            have xxz0 := xx.frozen 0
            have xx1 := xx.cell 1 rfl
            have xxz1 := xx.frozen 1
            have xx2 := xx.cell 2 rfl
            have xxz2 := xx.frozen 2
            have xx3 := xx.cell 3 rfl
            have xxz3 := xx.frozen 3
            have xx4 := xx.cell 4 rfl
            have xxz4 := xx.frozen 4
            have xx5 := xx.cell 5 rfl
            have xxz5 := xx.frozen 5
            have xx6 := xx.cell 6 rfl
            have xxz6 := xx.frozen 6
            have xx7 := xx.cell 7 rfl
            have xxz7 := xx.frozen 7
            have xx8 := xx.cell 8 rfl
            have xxz8 := xx.frozen 8
            have xy0 := xy.cell 0 rfl
            have xyz0 := xy.frozen 0
            have xy1 := xy.cell 1 rfl
            have xyz1 := xy.frozen 1
            have xy2 := xy.cell 2 rfl
            have xyz2 := xy.frozen 2
            have xy3 := xy.cell 3 rfl
            have xyz3 := xy.frozen 3
            have xy4 := xy.cell 4 rfl
            have xyz4 := xy.frozen 4
            have xy5 := xy.cell 5 rfl
            have xyz5 := xy.frozen 5
            have xy6 := xy.cell 6 rfl
            have xyz6 := xy.frozen 6
            have xy7 := xy.cell 7 rfl
            have xyz7 := xy.frozen 7
            have xy8 := xy.cell 8 rfl
            have xyz8 := xy.frozen 8
            go_wp2
            clear xx0 xxz0 xx1 xxz1 xx2 xxz2 xx3 xxz3 xx4 xxz4 xx5 xxz5 xx6 xxz6 xx7 xxz7 xx8 xxz8 xy0 xyz0 xy1 xyz1 xy2 xyz2 xy3 xyz3 xy4 xyz4 xy5 xyz5 xy6 xyz6 xy7 xyz7 xy8 xyz8
            replace xy : Box 33 (((((((((V8.setCell ⟨V2.heap.size, 0, none⟩ (.string yf.b0)).setCell ⟨V2.heap.size, 1, none⟩ (.string yf.b1)).setCell ⟨V2.heap.size, 2, none⟩ (.int .i64 yf.e0)).setCell ⟨V2.heap.size, 3, none⟩ (.int .i64 yf.e1)).setCell ⟨V2.heap.size, 4, none⟩ (.int .i64 yf.lim)).setCell ⟨V2.heap.size, 5, none⟩ (.int .i64 ((j : Int) + 1))).setCell ⟨V2.heap.size, 6, none⟩ (.int .u64 (d : Int))).setCell ⟨V2.heap.size, 7, none⟩ (.bool yb)).setCell ⟨V2.heap.size, 8, none⟩ (.int .u64 (yt : Int))) (g_xy) [.string yf.b0, .string yf.b1, .int .i64 yf.e0, .int .i64 yf.e1, .int .i64 yf.lim, .int .i64 ((j : Int) + 1), .int .u64 (d : Int), .bool yb, .int .u64 (yt : Int)] := (((((((((xy.other (Ne.symm ne_xy_xx) 0 (.string yf.b0)).other (Ne.symm ne_xy_xx) 1 (.string yf.b1)).other (Ne.symm ne_xy_xx) 2 (.int .i64 yf.e0)).other (Ne.symm ne_xy_xx) 3 (.int .i64 yf.e1)).other (Ne.symm ne_xy_xx) 4 (.int .i64 yf.lim)).other (Ne.symm ne_xy_xx) 5 (.int .i64 ((j : Int) + 1))).other (Ne.symm ne_xy_xx) 6 (.int .u64 (d : Int))).other (Ne.symm ne_xy_xx) 7 (.bool yb)).other (Ne.symm ne_xy_xx) 8 (.int .u64 (yt : Int)))
            replace xx : Box 33 (((((((((V8.setCell ⟨V2.heap.size, 0, none⟩ (.string yf.b0)).setCell ⟨V2.heap.size, 1, none⟩ (.string yf.b1)).setCell ⟨V2.heap.size, 2, none⟩ (.int .i64 yf.e0)).setCell ⟨V2.heap.size, 3, none⟩ (.int .i64 yf.e1)).setCell ⟨V2.heap.size, 4, none⟩ (.int .i64 yf.lim)).setCell ⟨V2.heap.size, 5, none⟩ (.int .i64 ((j : Int) + 1))).setCell ⟨V2.heap.size, 6, none⟩ (.int .u64 (d : Int))).setCell ⟨V2.heap.size, 7, none⟩ (.bool yb)).setCell ⟨V2.heap.size, 8, none⟩ (.int .u64 (yt : Int))) (V2.heap.size) [.string yf.b0, .string yf.b1, .int .i64 yf.e0, .int .i64 yf.e1, .int .i64 yf.lim, .int .i64 ((j : Int) + 1), .int .u64 (d : Int), .bool yb, .int .u64 (yt : Int)] := (((((((((xx.set 0 (.string yf.b0)).set 1 (.string yf.b1)).set 2 (.int .i64 yf.e0)).set 3 (.int .i64 yf.e1)).set 4 (.int .i64 yf.lim)).set 5 (.int .i64 ((j : Int) + 1))).set 6 (.int .u64 (d : Int))).set 7 (.bool yb)).set 8 (.int .u64 (yt : Int)))
            replace hB : Below W.heap.size W (((((((((V8.setCell ⟨V2.heap.size, 0, none⟩ (.string yf.b0)).setCell ⟨V2.heap.size, 1, none⟩ (.string yf.b1)).setCell ⟨V2.heap.size, 2, none⟩ (.int .i64 yf.e0)).setCell ⟨V2.heap.size, 3, none⟩ (.int .i64 yf.e1)).setCell ⟨V2.heap.size, 4, none⟩ (.int .i64 yf.lim)).setCell ⟨V2.heap.size, 5, none⟩ (.int .i64 ((j : Int) + 1))).setCell ⟨V2.heap.size, 6, none⟩ (.int .u64 (d : Int))).setCell ⟨V2.heap.size, 7, none⟩ (.bool yb)).setCell ⟨V2.heap.size, 8, none⟩ (.int .u64 (yt : Int))) := (((((((((hB.setCell le_xx _).setCell le_xx _).setCell le_xx _).setCell le_xx _).setCell le_xx _).setCell le_xx _).setCell le_xx _).setCell le_xx _).setCell le_xx _)
            generalize (((((((((V8.setCell ⟨V2.heap.size, 0, none⟩ (.string yf.b0)).setCell ⟨V2.heap.size, 1, none⟩ (.string yf.b1)).setCell ⟨V2.heap.size, 2, none⟩ (.int .i64 yf.e0)).setCell ⟨V2.heap.size, 3, none⟩ (.int .i64 yf.e1)).setCell ⟨V2.heap.size, 4, none⟩ (.int .i64 yf.lim)).setCell ⟨V2.heap.size, 5, none⟩ (.int .i64 ((j : Int) + 1))).setCell ⟨V2.heap.size, 6, none⟩ (.int .u64 (d : Int))).setCell ⟨V2.heap.size, 7, none⟩ (.bool yb)).setCell ⟨V2.heap.size, 8, none⟩ (.int .u64 (yt : Int))) = V9 at *
            have xx0 := xx.cell 0 rfl
            have xxz0 := xx.frozen 0
            have xx1 := xx.cell 1 rfl
            have xxz1 := xx.frozen 1
            have xx2 := xx.cell 2 rfl
            have xxz2 := xx.frozen 2
            have xx3 := xx.cell 3 rfl
            have xxz3 := xx.frozen 3
            have xx4 := xx.cell 4 rfl
            have xxz4 := xx.frozen 4
            have xx5 := xx.cell 5 rfl
            have xxz5 := xx.frozen 5
            have xx6 := xx.cell 6 rfl
            have xxz6 := xx.frozen 6
            have xx7 := xx.cell 7 rfl
            have xxz7 := xx.frozen 7
            have xx8 := xx.cell 8 rfl
            have xxz8 := xx.frozen 8
            have xy0 := xy.cell 0 rfl
            have xyz0 := xy.frozen 0
            have xy1 := xy.cell 1 rfl
            have xyz1 := xy.frozen 1
            have xy2 := xy.cell 2 rfl
            have xyz2 := xy.frozen 2
            have xy3 := xy.cell 3 rfl
            have xyz3 := xy.frozen 3
            have xy4 := xy.cell 4 rfl
            have xyz4 := xy.frozen 4
            have xy5 := xy.cell 5 rfl
            have xyz5 := xy.frozen 5
            have xy6 := xy.cell 6 rfl
            have xyz6 := xy.frozen 6
            have xy7 := xy.cell 7 rfl
            have xyz7 := xy.frozen 7
            have xy8 := xy.cell 8 rfl
            have xyz8 := xy.frozen 8
            clear xx0 xxz0 xx1 xxz1 xx2 xxz2 xx3 xxz3 xx4 xxz4 xx5 xxz5 xx6 xxz6 xx7 xxz7 xx8 xxz8 xy0 xyz0 xy1 xyz1 xy2 xyz2 xy3 xyz3 xy4 xyz4 xy5 xyz5 xy6 xyz6 xy7 xyz7 xy8 xyz8
            go_roundw
            case rel => exact ⟨j + 1, ⟨yf, (j : Int) + 1, d, yb, yt⟩, by omega, by go_num, by omega, s3.out, hyf, ⟨by show (0 : Int) ≤ (j : Int) + 1; omega, by show (j : Int) + 1 ≤ 1000; omega⟩, xx, hB⟩
            case measure => simp [intOf]; omega
      · obtain rfl : j = l.length := by omega
        clear HL
        go_wp2
        go_ret
        exact ⟨rfl, hB⟩

theorem own : ownKnob Try.prog.godebug = none := by kernel_rfl

set_option maxRecDepth 100000 in
theorem lifted (os : Os) (started : os.Started) (H : Type) (enc : TypeId × Value → H) :
    ReturnsInHanded {} Try.checked os 5 .any (Rows.journalErasesSpec.pre6 enc Try.prog Try.f5 Rows.journalErasesRow.domain false) (Rows.journalErasesSpec.post enc Try.prog Try.f5 false true false false) := by
  refine returnsInHanded_of_change (C := Try.checked) own started (by kernel_rfl) Try.func5
    (ChangeSpec.witness6 (enc := enc) (C := Try.checked) false ⟨#[], #[.int .u8 0, .int .u8 0, .slice none 0 0], []⟩ 8 (by kernel_rfl) (by kernel_rfl) (by kernel_rfl) (by kernel_rfl)) ?_
  intro W base args ds gs before hval hW _ _
  have hW' := hW
  obtain ⟨p, q, hA0, hV, rfl, hfz, hnd⟩ := hW
  have hA : DataW.TrodAll enc Try.prog W 0 (fun _ => true) true Try.f5.params.toList args.toList ds p := hA0
  rw [Try.params5] at hA hval
  obtain ⟨v0, vs0, d0, ds0, p0, q0, hargs, rfl, rfl, h0, r0⟩ := trodAll_cons hA
  obtain ⟨v1, vs1, d1, ds1, p1, q1, rfl, rfl, rfl, h1, r1⟩ := trodAll_cons r0
  obtain ⟨v2, vs2, d2, ds2, p2, q2, rfl, rfl, rfl, h2, r2⟩ := trodAll_cons r1
  obtain ⟨rfl, rfl, rfl⟩ := trodAll_nil r2
  obtain rfl : args = #[v0, v1, v2] := by cases args; simp_all
  obtain ⟨rfl, rfl⟩ := trodVars_none hV
  obtain ⟨a0, rfl, rfl, rfl, w0⟩ := open_int Try.underlying5 (hval 0 5 v0 rfl rfl) h0
  obtain ⟨c0, rfl⟩ := int_u8 w0
  obtain ⟨a1, rfl, rfl, rfl, w1⟩ := open_int Try.underlying5 (hval 1 5 v1 rfl rfl) h1
  obtain ⟨c1, rfl⟩ := int_u8 w1
  have k2 := h2
  obtain ⟨s2, A2, c2, rfl, hs2, ho2, hp2, hq2⟩ := open_u64s (hval 2 45 v2 rfl rfl) h2
  clear hA0
  simp only [List.append_nil] at hW'
  refine (walk c0 c1 s2 A2 c2 W hs2 ho2 hp2 hq2).mono fun e W' ⟨he, hB⟩ => ?_
  subst he
  exact ⟨_, rfl, ⟨_, _, _, [], _, [], hW', trodAll_cons_mk (shut_bool Try.underlying4 _) trodAll_mk0, (trodAll_cons_mk (shut_int Try.underlying5 w0) (trodAll_cons_mk (shut_int Try.underlying5 w1) (trodAll_cons_mk (Below.trod Try.laidOut (by kernel_rfl) (of_decide_eq_true (by kernel_rfl)) k2 hB (fun x hx => by simpa using hW'.lt x (by simp [hx]))) trodAll_mk0))), rfl, hB.frame _, fun h => by cases h⟩⟩

theorem holds : Rows.JournalErasesSaid :=
  OpenClaim.holds_of_wide 5 Try.f5 rfl rfl rfl rfl rfl rfl rfl ⟨rfl, rfl, rfl, rfl, rfl⟩ rfl rfl rfl rfl rfl (by kernel_rfl) Try.func5 (by kernel_rfl)
    (of_decide_eq_true (by kernel_rfl)) (by unfold Func.isWrapper; first | (rw [if_pos (by decide +kernel)]; kernel_rfl) | (rw [if_neg (by decide +kernel)]; exact ⟨rfl, rfl⟩))
    (fun os started H enc _ => lifted os started H enc)
end Go.Proofs.Ythmpjoiifglbjaa.JournalErases

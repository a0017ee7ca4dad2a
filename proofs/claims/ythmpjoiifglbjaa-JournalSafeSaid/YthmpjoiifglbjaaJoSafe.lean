/- From a new flash, whatever is cut when, and torn how: at each step what is read is the last state that was acknowledged, or the one in flight; nothing is read just if nothing was (JournalSafe); no condition. -/
import Derived.Test.YthmpjoiifglbjaaJourLaw
import Derived.Test.YthmpjoiifglbjaaJourOpen
import Derived.Deep.RegionHeld3
import Derived.WalkLawsBesides
import Derived.WalkSpells
import Derived.IntWalk
import Derived.Lib.Hide
import Derived.Test.YthmpjoiifglbjaaBox
import Derived.ProofKit
import Derived.OpenShut
import Derived.ChangeMaps5
import Derived.Test.YthmpjoiifglbjaaInts
namespace Go.Proofs.Ythmpjoiifglbjaa.JournalSafe
open Go.ChangeShapes Go.WideShapes Go.ChangeAt Go.RowKit Go.ChangeMaps
set_option linter.unusedVariables false
set_option linter.unusedSimpArgs false

set_option maxRecDepth 100000 in
set_option maxHeartbeats 3000000 in
theorem walk (n : UInt8) (m : UInt8) (l : List Stp) (lA : Option Addr) (lc : Nat) (W : World) (hl : RowsAt 3 stpV W lA l) (hlo : ∀ o ∈ l, o.ok) (hl1 : l.length ≤ lc) (hl2 : lc ≤ maxLen) :
    Calls Try.prog 3 #[.int .u8 (n.toNat : Int), .int .u8 (m.toNat : Int), .slice lA l.length lc] W fun e W' => e = .returned (.bool true) ∧ Below W.heap.size W W' := by
  obtain ⟨K, hK⟩ : ∃ K : Nat, K = 1 + n.toNat % 12 := ⟨_, rfl⟩
  have hK12 : 1 ≤ K ∧ K ≤ 12 := by omega
  have k0 : wrap64 (n.toNat : Int) = (n.toNat : Int) := w64_u8 n
  have kw : (K : Int) = 1 + (n.toNat : Int) % 12 := by omega
  have km : wrap64 (m.toNat : Int) = (m.toNat : Int) := w64_u8 m
  have kml := m.toNat_lt
  have hS := start_li hK12 (lim := (m.toNat : Int)) (by omega)
  have hF := newF_fit ((24 * K + 24 : Nat) : Int) (m.toNat : Int) (by omega)
  have hL : (newF ((24 * K + 24 : Nat) : Int) (m.toNat : Int)).lim = (m.toNat : Int) := (new_ji hK12 (lim := (m.toNat : Int)) (by omega)).2.2.1
  have TZ := Lib.hid (fun (V : World) => (show Calls Try.prog 9 #[.int .i64 (1 + (n.toNat : Int) % 12)] V fun e W' => e = .returned (.int .i64 ((24 * K + 24 : Nat) : Int)) ∧ W' = V from by have h := ref05Size (K : Int) V; rw [show sizeF (K : Int) = ((24 * K + 24 : Nat) : Int) from by unfold sizeF; rw [if_pos (by omega)]; omega] at h; rw [kw] at h; exact h))
  clear kw
  have TN := Lib.hid (fun (V : World) => flNew ((24 * K + 24 : Nat) : Int) (m.toNat : Int) V)
  obtain ⟨F, hFF⟩ : ∃ F, newF ((24 * K + 24 : Nat) : Int) (m.toNat : Int) = F := ⟨_, rfl⟩
  rw [hFF] at hS hF TN hL
  replace hL := Lib.hid hL
  obtain ⟨Z, hZ⟩ : ∃ Z : Int, ((24 * K + 24 : Nat) : Int) = Z := ⟨_, rfl⟩
  rw [hZ] at TZ TN
  clear hZ
  have hlh := Lib.hid hl
  clear hl
  by_cases hbig : big12 F l = true
  · have TBg := Lib.hid (fun (V : World) (h : RowsAt 3 stpV V lA l) => (show Calls Try.prog 10 #[.agg #[.string F.b0, .string F.b1, .int .i64 F.e0, .int .i64 F.e1, .int .i64 F.lim], .slice lA l.length lc] V fun e W' => e = .returned (.bool true) ∧ Below V.heap.size V W' from by have k := law12Big F l lA lc V hlo h ⟨hl1, hl2⟩; rwa [hbig] at k))
    clear hbig
    have hB : Below W.heap.size W W := Below.refl _ _
    go_enter Try.func3, Try.ntmps3
    go_wp2_with fail
    refine (TZ.out _).mono ?_
    rintro e w' ⟨rfl, hw⟩
    rw [hw]
    clear hw w'
    go_wp2_with fail
    refine (TN.out _).mono ?_
    rintro e V1 ⟨rfl, hk⟩
    replace hB := below_seq hB hk
    clear hk
    have xf := Box.new 26 V1 [.string F.b0, .string F.b1, .int .i64 F.e0, .int .i64 F.e1, .int .i64 F.lim]
    have le_xf : W.heap.size ≤ V1.heap.size := hB.size
    replace hB := hB.alloc hB.size (.cells #[.string F.b0, .string F.b1, .int .i64 F.e0, .int .i64 F.e1, .int .i64 F.lim] 26)
    have xf0 := xf.cell 0 rfl
    have xfz0 := xf.frozen 0
    have xf1 := xf.cell 1 rfl
    have xfz1 := xf.frozen 1
    have xf2 := xf.cell 2 rfl
    have xfz2 := xf.frozen 2
    have xf3 := xf.cell 3 rfl
    have xfz3 := xf.frozen 3
    have xf4 := xf.cell 4 rfl
    have xfz4 := xf.frozen 4
    go_wp2_with fail
    refine (TBg.out _ (hlh.out.seq hB)).mono ?_
    rintro e V2 ⟨rfl, hk⟩
    clear xf0 xfz0 xf1 xfz1 xf2 xfz2 xf3 xfz3 xf4 xfz4
    replace hB := below_seq hB hk
    replace xf := xf.seq hk
    clear hk
    have xf0 := xf.cell 0 rfl
    have xfz0 := xf.frozen 0
    have xf1 := xf.cell 1 rfl
    have xfz1 := xf.frozen 1
    have xf2 := xf.cell 2 rfl
    have xfz2 := xf.frozen 2
    have xf3 := xf.cell 3 rfl
    have xfz3 := xf.frozen 3
    have xf4 := xf.cell 4 rfl
    have xfz4 := xf.frozen 4
    go_wp2_with fail
    refine (shown12 _).mono ?_
    rintro e V3 ⟨rfl, hk⟩
    clear xf0 xfz0 xf1 xfz1 xf2 xfz2 xf3 xfz3 xf4 xfz4
    replace hB := below_seq hB hk
    replace xf := xf.seq hk
    clear hk
    have xf0 := xf.cell 0 rfl
    have xfz0 := xf.frozen 0
    have xf1 := xf.cell 1 rfl
    have xfz1 := xf.frozen 1
    have xf2 := xf.cell 2 rfl
    have xfz2 := xf.frozen 2
    have xf3 := xf.cell 3 rfl
    have xfz3 := xf.frozen 3
    have xf4 := xf.cell 4 rfl
    have xfz4 := xf.frozen 4
    go_wp2
    go_ret
    exact ⟨rfl, hB⟩
  · have hbig2 : big12 F l = false := by cases h : big12 F l with | false => rfl | true => exact absurd h hbig
    have TBg := Lib.hid (fun (V : World) (h : RowsAt 3 stpV V lA l) => (show Calls Try.prog 10 #[.agg #[.string F.b0, .string F.b1, .int .i64 F.e0, .int .i64 F.e1, .int .i64 F.lim], .slice lA l.length lc] V fun e W' => e = .returned (.bool false) ∧ Below V.heap.size V W' from by have k := law12Big F l lA lc V hlo h ⟨hl1, hl2⟩; rwa [hbig2] at k))
    have hl60 := big12_no hbig2
    clear hbig hbig2
    have HL := Lib.hid (fun k o hk => hlh.out.hop k o hk)
    clear hFF hL kml hK
    have hB : Below W.heap.size W W := Below.refl _ _
    go_enter Try.func3, Try.ntmps3
    go_wp2_with fail
    refine (TZ.out _).mono ?_
    rintro e w' ⟨rfl, hw⟩
    rw [hw]
    clear hw w'
    go_wp2_with fail
    refine (TN.out _).mono ?_
    rintro e V1 ⟨rfl, hk⟩
    replace hB := below_seq hB hk
    clear hk
    have xf := Box.new 26 V1 [.string F.b0, .string F.b1, .int .i64 F.e0, .int .i64 F.e1, .int .i64 F.lim]
    have le_xf : W.heap.size ≤ V1.heap.size := hB.size
    replace hB := hB.alloc hB.size (.cells #[.string F.b0, .string F.b1, .int .i64 F.e0, .int .i64 F.e1, .int .i64 F.lim] 26)
    have xf0 := xf.cell 0 rfl
    have xfz0 := xf.frozen 0
    have xf1 := xf.cell 1 rfl
    have xfz1 := xf.frozen 1
    have xf2 := xf.cell 2 rfl
    have xfz2 := xf.frozen 2
    have xf3 := xf.cell 3 rfl
    have xfz3 := xf.frozen 3
    have xf4 := xf.cell 4 rfl
    have xfz4 := xf.frozen 4
    go_wp2_with fail
    refine (TBg.out _ (hlh.out.seq hB)).mono ?_
    rintro e V2 ⟨rfl, hk⟩
    clear xf0 xfz0 xf1 xfz1 xf2 xfz2 xf3 xfz3 xf4 xfz4
    replace hB := below_seq hB hk
    replace xf := xf.seq hk
    clear hk
    have xf0 := xf.cell 0 rfl
    have xfz0 := xf.frozen 0
    have xf1 := xf.cell 1 rfl
    have xfz1 := xf.frozen 1
    have xf2 := xf.cell 2 rfl
    have xfz2 := xf.frozen 2
    have xf3 := xf.cell 3 rfl
    have xfz3 := xf.frozen 3
    have xf4 := xf.cell 4 rfl
    have xfz4 := xf.frozen 4
    go_wp2_with fail
    refine (shown12 _).mono ?_
    rintro e V3 ⟨rfl, hk⟩
    clear xf0 xfz0 xf1 xfz1 xf2 xfz2 xf3 xfz3 xf4 xfz4
    replace hB := below_seq hB hk
    replace xf := xf.seq hk
    clear hk
    have xf0 := xf.cell 0 rfl
    have xfz0 := xf.frozen 0
    have xf1 := xf.cell 1 rfl
    have xfz1 := xf.frozen 1
    have xf2 := xf.cell 2 rfl
    have xfz2 := xf.frozen 2
    have xf3 := xf.cell 3 rfl
    have xfz3 := xf.frozen 3
    have xf4 := xf.cell 4 rfl
    have xfz4 := xf.frozen 4
    go_wp2
    clear xf0 xfz0 xf1 xfz1 xf2 xfz2 xf3 xfz3 xf4 xfz4
    have xx := Box.new 33 V3 [.string F.b0, .string F.b1, .int .i64 F.e0, .int .i64 F.e1, .int .i64 F.lim, .int .i64 0, .int .u64 0, .bool false, .int .u64 0]
    have ne_xx_xf : V3.heap.size ≠ V1.heap.size := Nat.ne_of_gt xf.lt
    have le_xx : W.heap.size ≤ V3.heap.size := hB.size
    replace xf := xf.alloc (.cells #[.string F.b0, .string F.b1, .int .i64 F.e0, .int .i64 F.e1, .int .i64 F.lim, .int .i64 0, .int .u64 0, .bool false, .int .u64 0] 33)
    replace hB := hB.alloc hB.size (.cells #[.string F.b0, .string F.b1, .int .i64 F.e0, .int .i64 F.e1, .int .i64 F.lim, .int .i64 0, .int .u64 0, .bool false, .int .u64 0] 33)
    have xf0 := xf.cell 0 rfl
    have xfz0 := xf.frozen 0
    have xf1 := xf.cell 1 rfl
    have xfz1 := xf.frozen 1
    have xf2 := xf.cell 2 rfl
    have xfz2 := xf.frozen 2
    have xf3 := xf.cell 3 rfl
    have xfz3 := xf.frozen 3
    have xf4 := xf.cell 4 rfl
    have xfz4 := xf.frozen 4
    have xx0 := xx.cell 0 rfl
    have xxz0 := xx.frozen 0
    have xx1 := xx.cell 1 rfl
    have xxz1 := xx.frozen 1
    have xx2 := xx.cell 2 rfl
    have xxz2 := xx.frozen 2
    have xx3 := xx.cell 3 rfl
    have xxz3 := xx.frozen 3
    have xx4 := xx.cell 4 rfl
    have xxz4 := xx.frozen 4
    have xx5 := xx.cell 5 rfl
    have xxz5 := xx.frozen 5
    have xx6 := xx.cell 6 rfl
    have xxz6 := xx.frozen 6
    have xx7 := xx.cell 7 rfl
    have xxz7 := xx.frozen 7
    have xx8 := xx.cell 8 rfl
    have xxz8 := xx.frozen 8
    clear xf0 xfz0 xf1 xfz1 xf2 xfz2 xf3 xfz3 xf4 xfz4 xx0 xxz0 xx1 xxz1 xx2 xxz2 xx3 xxz3 xx4 xxz4 xx5 xxz5 xx6 xxz6 xx7 xxz7 xx8 xxz8
    go_loopw [9] (fun i w => ∃ (j : Nat) (x : Lg), j ≤ l.length ∧ i = .int .i64 j ∧ LI K j x ∧ x.f.fit ∧ Box 33 w (V3.heap.size) [.string x.f.b0, .string x.f.b1, .int .i64 x.f.e0, .int .i64 x.f.e1, .int .i64 x.f.lim, .int .i64 x.acked, .int .u64 (x.last : Int), .bool x.flying, .int .u64 (x.flight : Int)] ∧ Below W.heap.size W w) (fun i _ => l.length - (intOf i).toNat)
    case atStart => exact ⟨0, startJ F, Nat.zero_le _, rfl, hS, hF, xx, hB⟩
    case round =>
      clear xx xf hB hS hF
      obtain ⟨j, x, hj, rfl, HX, hxf, xx, hB⟩ := hrel
      by_cases hlt : j < l.length
      · obtain ⟨s, hjs⟩ : ∃ s, l[j]? = some s := ⟨_, List.getElem?_eq_getElem hlt⟩
        obtain ⟨g, off, rfl, HC0⟩ := HL.out j s hjs
        have HC := Lib.hid (show ∀ V : World, Below W.heap.size W V → V.cell? ⟨g, off + j * 3, none⟩ = some (.int .u64 (s.data : Int)) ∧ V.cell? ⟨g, off + j * 3 + 1, none⟩ = some (.int .i64 s.cut) ∧ V.cell? ⟨g, off + j * 3 + 2, none⟩ = some (.string s.mask) from fun V h => ⟨HC0 V h 0 (by decide), HC0 V h 1 (by decide), HC0 V h 2 (by decide)⟩)
        clear HC0
        have hs := hlo s (List.mem_of_getElem? hjs)
        obtain ⟨yf, ya, yl, yb, yt, hy⟩ : ∃ yf ya yl yb yt, playJ x s = ⟨yf, ya, yl, yb, yt⟩ := ⟨_, _, _, _, _, rfl⟩
        have HY := (play_li HX hs.nd).1
        have hyf := playJ_fit hxf s
        rw [hy] at HY hyf
        have TP := Lib.hid (fun (V : World) => (show Calls Try.prog 12 #[.agg #[.string x.f.b0, .string x.f.b1, .int .i64 x.f.e0, .int .i64 x.f.e1, .int .i64 x.f.lim, .int .i64 x.acked, .int .u64 (x.last : Int), .bool x.flying, .int .u64 (x.flight : Int)], .agg #[.int .u64 (s.data : Int), .int .i64 s.cut, .string s.mask]] V fun e W' => e = .returned (.agg #[.string yf.b0, .string yf.b1, .int .i64 yf.e0, .int .i64 yf.e1, .int .i64 yf.lim, .int .i64 ya, .int .u64 (yl : Int), .bool yb, .int .u64 (yt : Int)]) ∧ Below V.heap.size V W' from by have h := own12Play x s V hxf (HX.small (by omega)) hs; rw [hy] at h; exact h))
        have TS := Lib.hid (fun (V : World) => (show Calls Try.prog 13 #[.agg #[.string yf.b0, .string yf.b1, .int .i64 yf.e0, .int .i64 yf.e1, .int .i64 yf.lim, .int .i64 ya, .int .u64 (yl : Int), .bool yb, .int .u64 (yt : Int)]] V fun e W' => e = .returned (.tuple #[.int .u64 ((pickS yf).data : Int), .bool (decide (pickE yf = 0))]) ∧ Below V.heap.size V W' from own12State (Lg.mk yf ya yl yb yt) V hyf.ok))
        have j0 : (0 : Int) ≤ (j : Int) := by omega
        have j1 : (j : Int) < (l.length : Int) := by omega
        clear hy hs hjs HX hxf HL
        replace HY := Lib.hid HY
        cases yb
        · by_cases ha : 0 < ya
          · obtain ⟨h0, hd⟩ := HY.out.rests rfl ha
            dsimp only at h0 hd
            have m1 : ya > 0 := ha
            rw [h0, hd] at TS
            go_wp2_with fail
            replace hB := hB.drew
            replace xx := xx.drew
            refine wp_region_held_drew (S := fun w' => w'.cell? ⟨g, off + j * 3, none⟩ = some (.int .u64 (s.data : Int)) ∧ w'.cell? ⟨g, off + j * 3 + 1, none⟩ = some (.int .i64 s.cut) ∧ w'.cell? ⟨g, off + j * 3 + 2, none⟩ = some (.string s.mask)) (by kernel_rfl) ?_ (fun hHeld => ?_)
            · exact ⟨(HC.out _ hB).1, (HC.out _ hB).2.1, (HC.out _ hB).2.2⟩
            generalize wr.drew = V4 at *
            refine wpAnyH_take (i := 1) (v := ?_) rfl (by kernel_rfl) (by kernel_rfl) (by kernel_rfl) (fun _ _ _ h => h) (Or.inl ⟨by rfl, ?_⟩) (by assumption) ?_
            rotate_left
            · intro w hSw; (try dsimp only at hSw); go_simp; try with_reducible rfl
            try simp only [Act.put, List.getElem_toArray, List.getElem_cons_zero, List.getElem_cons_succ, List.setIfInBounds_toArray, List.set_cons_zero, List.set_cons_succ]
            refine wpAnyH_take (i := 2) (v := ?_) rfl (by kernel_rfl) (by kernel_rfl) (by kernel_rfl) (fun _ _ _ h => h) (Or.inl ⟨by rfl, ?_⟩) (by assumption) ?_
            rotate_left
            · intro w hSw; (try dsimp only at hSw); go_simp; try with_reducible rfl
            try simp only [Act.put, List.getElem_toArray, List.getElem_cons_zero, List.getElem_cons_succ, List.setIfInBounds_toArray, List.set_cons_zero, List.set_cons_succ]
            refine wpAnyH_take (i := 3) (v := ?_) rfl (by kernel_rfl) (by kernel_rfl) (by kernel_rfl) (fun _ _ _ h => h) (Or.inl ⟨by rfl, ?_⟩) (by assumption) ?_
            rotate_left
            · intro w hSw; (try dsimp only at hSw); go_simp; try with_reducible rfl
            try simp only [Act.put, List.getElem_toArray, List.getElem_cons_zero, List.getElem_cons_succ, List.setIfInBounds_toArray, List.set_cons_zero, List.set_cons_succ]
            refine wpAnyH_take (i := 4) (v := ?_) rfl (by kernel_rfl) (by kernel_rfl) (by kernel_rfl) (fun _ _ _ h => h) (Or.inl ⟨by rfl, ?_⟩) (by assumption) ?_
            rotate_left
            · intro w hSw; (try dsimp only at hSw); go_simp; try with_reducible rfl
            try simp only [Act.put, List.getElem_toArray, List.getElem_cons_zero, List.getElem_cons_succ, List.setIfInBounds_toArray, List.set_cons_zero, List.set_cons_succ]
            refine wpAnyH_ready (rs := [0]) (by kernel_rfl) (by simp) ?_
            refine AllReadyH.cons rfl (fun K hK => ?_) AllReadyH.nil
            have xx0 := xx.cell 0 rfl
            have xxz0 := xx.frozen 0
            have xx1 := xx.cell 1 rfl
            have xxz1 := xx.frozen 1
            have xx2 := xx.cell 2 rfl
            have xxz2 := xx.frozen 2
            have xx3 := xx.cell 3 rfl
            have xxz3 := xx.frozen 3
            have xx4 := xx.cell 4 rfl
            have xxz4 := xx.frozen 4
            have xx5 := xx.cell 5 rfl
            have xxz5 := xx.frozen 5
            have xx6 := xx.cell 6 rfl
            have xxz6 := xx.frozen 6
            have xx7 := xx.cell 7 rfl
            have xxz7 := xx.frozen 7
            have xx8 := xx.cell 8 rfl
            have xxz8 := xx.frozen 8
            go_simp
            try go_wp2_with fail
            clear xx0 xxz0 xx1 xxz1 xx2 xxz2 xx3 xxz3 xx4 xxz4 xx5 xxz5 xx6 xxz6 xx7 xxz7 xx8 xxz8
            clear hHeld
            refine hK.out _ _ ?_ (fun hHeld => ?_)
            · exact ⟨(HC.out _ hB).1, (HC.out _ hB).2.1, (HC.out _ hB).2.2⟩
            clear hK K
            try simp only [Act.put, List.getElem_toArray, List.getElem_cons_zero, List.getElem_cons_succ, List.setIfInBounds_toArray, List.set_cons_zero, List.set_cons_succ]
            refine wpAnyH_ready (rs := [5]) (by kernel_rfl) (by simp) ?_
            refine AllReadyH.cons rfl (fun K hK => ?_) AllReadyH.nil
            have xx0 := xx.cell 0 rfl
            have xxz0 := xx.frozen 0
            have xx1 := xx.cell 1 rfl
            have xxz1 := xx.frozen 1
            have xx2 := xx.cell 2 rfl
            have xxz2 := xx.frozen 2
            have xx3 := xx.cell 3 rfl
            have xxz3 := xx.frozen 3
            have xx4 := xx.cell 4 rfl
            have xxz4 := xx.frozen 4
            have xx5 := xx.cell 5 rfl
            have xxz5 := xx.frozen 5
            have xx6 := xx.cell 6 rfl
            have xxz6 := xx.frozen 6
            have xx7 := xx.cell 7 rfl
            have xxz7 := xx.frozen 7
            have xx8 := xx.cell 8 rfl
            have xxz8 := xx.frozen 8
            go_simp
            refine (TP.out _).mono ?_
            rintro e V5 ⟨rfl, hk⟩
            clear xx0 xxz0 xx1 xxz1 xx2 xxz2 xx3 xxz3 xx4 xxz4 xx5 xxz5 xx6 xxz6 xx7 xxz7 xx8 xxz8
            replace hB := below_seq hB hk
            replace xx := xx.seq hk
            clear hk
            have xx0 := xx.cell 0 rfl
            have xxz0 := xx.frozen 0
            have xx1 := xx.cell 1 rfl
            have xxz1 := xx.frozen 1
            have xx2 := xx.cell 2 rfl
            have xxz2 := xx.frozen 2
            have xx3 := xx.cell 3 rfl
            have xxz3 := xx.frozen 3
            have xx4 := xx.cell 4 rfl
            have xxz4 := xx.frozen 4
            have xx5 := xx.cell 5 rfl
            have xxz5 := xx.frozen 5
            have xx6 := xx.cell 6 rfl
            have xxz6 := xx.frozen 6
            have xx7 := xx.cell 7 rfl
            have xxz7 := xx.frozen 7
            have xx8 := xx.cell 8 rfl
            have xxz8 := xx.frozen 8
            try go_wp2_with fail
            clear xx0 xxz0 xx1 xxz1 xx2 xxz2 xx3 xxz3 xx4 xxz4 xx5 xxz5 xx6 xxz6 xx7 xxz7 xx8 xxz8
            clear hHeld
            refine hK.out _ _ ?_ (fun hHeld => ?_)
            · exact ⟨(HC.out _ hB).1, (HC.out _ hB).2.1, (HC.out _ hB).2.2⟩
            clear hK K
            try simp only [Act.put, List.getElem_toArray, List.getElem_cons_zero, List.getElem_cons_succ, List.setIfInBounds_toArray, List.set_cons_zero, List.set_cons_succ]
            refine wpAnyH_ready (rs := [6]) (by kernel_rfl) (by simp) ?_
            refine AllReadyH.cons rfl (fun K hK => ?_) AllReadyH.nil
            have xx0 := xx.cell 0 rfl
            have xxz0 := xx.frozen 0
            have xx1 := xx.cell 1 rfl
            have xxz1 := xx.frozen 1
            have xx2 := xx.cell 2 rfl
            have xxz2 := xx.frozen 2
            have xx3 := xx.cell 3 rfl
            have xxz3 := xx.frozen 3
            have xx4 := xx.cell 4 rfl
            have xxz4 := xx.frozen 4
            have xx5 := xx.cell 5 rfl
            have xxz5 := xx.frozen 5
            have xx6 := xx.cell 6 rfl
            have xxz6 := xx.frozen 6
            have xx7 := xx.cell 7 rfl
            have xxz7 := xx.frozen 7
            have xx8 := xx.cell 8 rfl
            have xxz8 := xx.frozen 8
            go_simp
            try go_wp2_with fail
            clear xx0 xxz0 xx1 xxz1 xx2 xxz2 xx3 xxz3 xx4 xxz4 xx5 xxz5 xx6 xxz6 xx7 xxz7 xx8 xxz8
            replace xx : Box 33 (((((((((V5.setCell ⟨V3.heap.size, 0, none⟩ (.string yf.b0)).setCell ⟨V3.heap.size, 1, none⟩ (.string yf.b1)).setCell ⟨V3.heap.size, 2, none⟩ (.int .i64 yf.e0)).setCell ⟨V3.heap.size, 3, none⟩ (.int .i64 yf.e1)).setCell ⟨V3.heap.size, 4, none⟩ (.int .i64 yf.lim)).setCell ⟨V3.heap.size, 5, none⟩ (.int .i64 ya)).setCell ⟨V3.heap.size, 6, none⟩ (.int .u64 (yl : Int))).setCell ⟨V3.heap.size, 7, none⟩ (.bool false)).setCell ⟨V3.heap.size, 8, none⟩ (.int .u64 (yt : Int))) (V3.heap.size) [.string yf.b0, .string yf.b1, .int .i64 yf.e0, .int .i64 yf.e1, .int .i64 yf.lim, .int .i64 ya, .int .u64 (yl : Int), .bool false, .int .u64 (yt : Int)] := (((((((((xx.set 0 (.string yf.b0)).set 1 (.string yf.b1)).set 2 (.int .i64 yf.e0)).set 3 (.int .i64 yf.e1)).set 4 (.int .i64 yf.lim)).set 5 (.int .i64 ya)).set 6 (.int .u64 (yl : Int))).set 7 (.bool false)).set 8 (.int .u64 (yt : Int)))
            replace hB : Below W.heap.size W (((((((((V5.setCell ⟨V3.heap.size, 0, none⟩ (.string yf.b0)).setCell ⟨V3.heap.size, 1, none⟩ (.string yf.b1)).setCell ⟨V3.heap.size, 2, none⟩ (.int .i64 yf.e0)).setCell ⟨V3.heap.size, 3, none⟩ (.int .i64 yf.e1)).setCell ⟨V3.heap.size, 4, none⟩ (.int .i64 yf.lim)).setCell ⟨V3.heap.size, 5, none⟩ (.int .i64 ya)).setCell ⟨V3.heap.size, 6, none⟩ (.int .u64 (yl : Int))).setCell ⟨V3.heap.size, 7, none⟩ (.bool false)).setCell ⟨V3.heap.size, 8, none⟩ (.int .u64 (yt : Int))) := (((((((((hB.setCell le_xx _).setCell le_xx _).setCell le_xx _).setCell le_xx _).setCell le_xx _).setCell le_xx _).setCell le_xx _).setCell le_xx _).setCell le_xx _)
            generalize (((((((((V5.setCell ⟨V3.heap.size, 0, none⟩ (.string yf.b0)).setCell ⟨V3.heap.size, 1, none⟩ (.string yf.b1)).setCell ⟨V3.heap.size, 2, none⟩ (.int .i64 yf.e0)).setCell ⟨V3.heap.size, 3, none⟩ (.int .i64 yf.e1)).setCell ⟨V3.heap.size, 4, none⟩ (.int .i64 yf.lim)).setCell ⟨V3.heap.size, 5, none⟩ (.int .i64 ya)).setCell ⟨V3.heap.size, 6, none⟩ (.int .u64 (yl : Int))).setCell ⟨V3.heap.size, 7, none⟩ (.bool false)).setCell ⟨V3.heap.size, 8, none⟩ (.int .u64 (yt : Int))) = V6 at *
            clear hHeld
            refine hK.out _ _ ?_ (fun hHeld => ?_)
            · exact ⟨(HC.out _ hB).1, (HC.out _ hB).2.1, (HC.out _ hB).2.2⟩
            clear hK K
            try simp only [Act.put, List.getElem_toArray, List.getElem_cons_zero, List.getElem_cons_succ, List.setIfInBounds_toArray, List.set_cons_zero, List.set_cons_succ]
            refine wpAnyH_done (by kernel_rfl) ?_ _
            clear hHeld
            have xx0 := xx.cell 0 rfl
            have xxz0 := xx.frozen 0
            have xx1 := xx.cell 1 rfl
            have xxz1 := xx.frozen 1
            have xx2 := xx.cell 2 rfl
            have xxz2 := xx.frozen 2
            have xx3 := xx.cell 3 rfl
            have xxz3 := xx.frozen 3
            have xx4 := xx.cell 4 rfl
            have xxz4 := xx.frozen 4
            have xx5 := xx.cell 5 rfl
            have xxz5 := xx.frozen 5
            have xx6 := xx.cell 6 rfl
            have xxz6 := xx.frozen 6
            have xx7 := xx.cell 7 rfl
            have xxz7 := xx.frozen 7
            have xx8 := xx.cell 8 rfl
            have xxz8 := xx.frozen 8
            go_wp2_with fail
            refine (TS.out _).mono ?_
            rintro e V7 ⟨rfl, hk⟩
            clear xx0 xxz0 xx1 xxz1 xx2 xxz2 xx3 xxz3 xx4 xxz4 xx5 xxz5 xx6 xxz6 xx7 xxz7 xx8 xxz8
            replace hB := below_seq hB hk
            replace xx := xx.seq hk
            clear hk
            have xx0 := xx.cell 0 rfl
            have xxz0 := xx.frozen 0
            have xx1 := xx.cell 1 rfl
            have xxz1 := xx.frozen 1
            have xx2 := xx.cell 2 rfl
            have xxz2 := xx.frozen 2
            have xx3 := xx.cell 3 rfl
            have xxz3 := xx.frozen 3
            have xx4 := xx.cell 4 rfl
            have xxz4 := xx.frozen 4
            have xx5 := xx.cell 5 rfl
            have xxz5 := xx.frozen 5
            have xx6 := xx.cell 6 rfl
            have xxz6 := xx.frozen 6
            have xx7 := xx.cell 7 rfl
            have xxz7 := xx.frozen 7
            have xx8 := xx.cell 8 rfl
            have xxz8 := xx.frozen 8
            go_wp2
            clear xx0 xxz0 xx1 xxz1 xx2 xxz2 xx3 xxz3 xx4 xxz4 xx5 xxz5 xx6 xxz6 xx7 xxz7 xx8 xxz8
            go_roundw
            case rel => exact ⟨j + 1, _, by omega, by go_num, HY.out, hyf, xx, hB⟩
            case measure => simp [intOf]; omega
          · have h0 := HY.out.blank rfl ha
            dsimp only at h0
            have m1 : ¬ ya > 0 := ha
            rw [show decide (pickE yf = 0) = false from decide_eq_false h0] at TS
            go_wp2_with fail
            replace hB := hB.drew
            replace xx := xx.drew
            refine wp_region_held_drew (S := fun w' => w'.cell? ⟨g, off + j * 3, none⟩ = some (.int .u64 (s.data : Int)) ∧ w'.cell? ⟨g, off + j * 3 + 1, none⟩ = some (.int .i64 s.cut) ∧ w'.cell? ⟨g, off + j * 3 + 2, none⟩ = some (.string s.mask)) (by kernel_rfl) ?_ (fun hHeld => ?_)
            · exact ⟨(HC.out _ hB).1, (HC.out _ hB).2.1, (HC.out _ hB).2.2⟩
            generalize wr.drew = V4 at *
            refine wpAnyH_take (i := 1) (v := ?_) rfl (by kernel_rfl) (by kernel_rfl) (by kernel_rfl) (fun _ _ _ h => h) (Or.inl ⟨by rfl, ?_⟩) (by assumption) ?_
            rotate_left
            · intro w hSw; (try dsimp only at hSw); go_simp; try with_reducible rfl
            try simp only [Act.put, List.getElem_toArray, List.getElem_cons_zero, List.getElem_cons_succ, List.setIfInBounds_toArray, List.set_cons_zero, List.set_cons_succ]
            refine wpAnyH_take (i := 2) (v := ?_) rfl (by kernel_rfl) (by kernel_rfl) (by kernel_rfl) (fun _ _ _ h => h) (Or.inl ⟨by rfl, ?_⟩) (by assumption) ?_
            rotate_left
            · intro w hSw; (try dsimp only at hSw); go_simp; try with_reducible rfl
            try simp only [Act.put, List.getElem_toArray, List.getElem_cons_zero, List.getElem_cons_succ, List.setIfInBounds_toArray, List.set_cons_zero, List.set_cons_succ]
            refine wpAnyH_take (i := 3) (v := ?_) rfl (by kernel_rfl) (by kernel_rfl) (by kernel_rfl) (fun _ _ _ h => h) (Or.inl ⟨by rfl, ?_⟩) (by assumption) ?_
            rotate_left
            · intro w hSw; (try dsimp only at hSw); go_simp; try with_reducible rfl
            try simp only [Act.put, List.getElem_toArray, List.getElem_cons_zero, List.getElem_cons_succ, List.setIfInBounds_toArray, List.set_cons_zero, List.set_cons_succ]
            refine wpAnyH_take (i := 4) (v := ?_) rfl (by kernel_rfl) (by kernel_rfl) (by kernel_rfl) (fun _ _ _ h => h) (Or.inl ⟨by rfl, ?_⟩) (by assumption) ?_
            rotate_left
            · intro w hSw; (try dsimp only at hSw); go_simp; try with_reducible rfl
            try simp only [Act.put, List.getElem_toArray, List.getElem_cons_zero, List.getElem_cons_succ, List.setIfInBounds_toArray, List.set_cons_zero, List.set_cons_succ]
            refine wpAnyH_ready (rs := [0]) (by kernel_rfl) (by simp) ?_
            refine AllReadyH.cons rfl (fun K hK => ?_) AllReadyH.nil
            have xx0 := xx.cell 0 rfl
            have xxz0 := xx.frozen 0
            have xx1 := xx.cell 1 rfl
            have xxz1 := xx.frozen 1
            have xx2 := xx.cell 2 rfl
            have xxz2 := xx.frozen 2
            have xx3 := xx.cell 3 rfl
            have xxz3 := xx.frozen 3
            have xx4 := xx.cell 4 rfl
            have xxz4 := xx.frozen 4
            have xx5 := xx.cell 5 rfl
            have xxz5 := xx.frozen 5
            have xx6 := xx.cell 6 rfl
            have xxz6 := xx.frozen 6
            have xx7 := xx.cell 7 rfl
            have xxz7 := xx.frozen 7
            have xx8 := xx.cell 8 rfl
            have xxz8 := xx.frozen 8
            go_simp
            try go_wp2_with fail
            clear xx0 xxz0 xx1 xxz1 xx2 xxz2 xx3 xxz3 xx4 xxz4 xx5 xxz5 xx6 xxz6 xx7 xxz7 xx8 xxz8
            clear hHeld
            refine hK.out _ _ ?_ (fun hHeld => ?_)
            · exact ⟨(HC.out _ hB).1, (HC.out _ hB).2.1, (HC.out _ hB).2.2⟩
            clear hK K
            try simp only [Act.put, List.getElem_toArray, List.getElem_cons_zero, List.getElem_cons_succ, List.setIfInBounds_toArray, List.set_cons_zero, List.set_cons_succ]
            refine wpAnyH_ready (rs := [5]) (by kernel_rfl) (by simp) ?_
            refine AllReadyH.cons rfl (fun K hK => ?_) AllReadyH.nil
            have xx0 := xx.cell 0 rfl
            have xxz0 := xx.frozen 0
            have xx1 := xx.cell 1 rfl
            have xxz1 := xx.frozen 1
            have xx2 := xx.cell 2 rfl
            have xxz2 := xx.frozen 2
            have xx3 := xx.cell 3 rfl
            have xxz3 := xx.frozen 3
            have xx4 := xx.cell 4 rfl
            have xxz4 := xx.frozen 4
            have xx5 := xx.cell 5 rfl
            have xxz5 := xx.frozen 5
            have xx6 := xx.cell 6 rfl
            have xxz6 := xx.frozen 6
            have xx7 := xx.cell 7 rfl
            have xxz7 := xx.frozen 7
            have xx8 := xx.cell 8 rfl
            have xxz8 := xx.frozen 8
            go_simp
            refine (TP.out _).mono ?_
            rintro e V5 ⟨rfl, hk⟩
            clear xx0 xxz0 xx1 xxz1 xx2 xxz2 xx3 xxz3 xx4 xxz4 xx5 xxz5 xx6 xxz6 xx7 xxz7 xx8 xxz8
            replace hB := below_seq hB hk
            replace xx := xx.seq hk
            clear hk
            have xx0 := xx.cell 0 rfl
            have xxz0 := xx.frozen 0
            have xx1 := xx.cell 1 rfl
            have xxz1 := xx.frozen 1
            have xx2 := xx.cell 2 rfl
            have xxz2 := xx.frozen 2
            have xx3 := xx.cell 3 rfl
            have xxz3 := xx.frozen 3
            have xx4 := xx.cell 4 rfl
            have xxz4 := xx.frozen 4
            have xx5 := xx.cell 5 rfl
            have xxz5 := xx.frozen 5
            have xx6 := xx.cell 6 rfl
            have xxz6 := xx.frozen 6
            have xx7 := xx.cell 7 rfl
            have xxz7 := xx.frozen 7
            have xx8 := xx.cell 8 rfl
            have xxz8 := xx.frozen 8
            try go_wp2_with fail
            clear xx0 xxz0 xx1 xxz1 xx2 xxz2 xx3 xxz3 xx4 xxz4 xx5 xxz5 xx6 xxz6 xx7 xxz7 xx8 xxz8
            clear hHeld
            refine hK.out _ _ ?_ (fun hHeld => ?_)
            · exact ⟨(HC.out _ hB).1, (HC.out _ hB).2.1, (HC.out _ hB).2.2⟩
            clear hK K
            try simp only [Act.put, List.getElem_toArray, List.getElem_cons_zero, List.getElem_cons_succ, List.setIfInBounds_toArray, List.set_cons_zero, List.set_cons_succ]
            refine wpAnyH_ready (rs := [6]) (by kernel_rfl) (by simp) ?_
            refine AllReadyH.cons rfl (fun K hK => ?_) AllReadyH.nil
            have xx0 := xx.cell 0 rfl
            have xxz0 := xx.frozen 0
            have xx1 := xx.cell 1 rfl
            have xxz1 := xx.frozen 1
            have xx2 := xx.cell 2 rfl
            have xxz2 := xx.frozen 2
            have xx3 := xx.cell 3 rfl
            have xxz3 := xx.frozen 3
            have xx4 := xx.cell 4 rfl
            have xxz4 := xx.frozen 4
            have xx5 := xx.cell 5 rfl
            have xxz5 := xx.frozen 5
            have xx6 := xx.cell 6 rfl
            have xxz6 := xx.frozen 6
            have xx7 := xx.cell 7 rfl
            have xxz7 := xx.frozen 7
            have xx8 := xx.cell 8 rfl
            have xxz8 := xx.frozen 8
            go_simp
            try go_wp2_with fail
            clear xx0 xxz0 xx1 xxz1 xx2 xxz2 xx3 xxz3 xx4 xxz4 xx5 xxz5 xx6 xxz6 xx7 xxz7 xx8 xxz8
            replace xx : Box 33 (((((((((V5.setCell ⟨V3.heap.size, 0, none⟩ (.string yf.b0)).setCell ⟨V3.heap.size, 1, none⟩ (.string yf.b1)).setCell ⟨V3.heap.size, 2, none⟩ (.int .i64 yf.e0)).setCell ⟨V3.heap.size, 3, none⟩ (.int .i64 yf.e1)).setCell ⟨V3.heap.size, 4, none⟩ (.int .i64 yf.lim)).setCell ⟨V3.heap.size, 5, none⟩ (.int .i64 ya)).setCell ⟨V3.heap.size, 6, none⟩ (.int .u64 (yl : Int))).setCell ⟨V3.heap.size, 7, none⟩ (.bool false)).setCell ⟨V3.heap.size, 8, none⟩ (.int .u64 (yt : Int))) (V3.heap.size) [.string yf.b0, .string yf.b1, .int .i64 yf.e0, .int .i64 yf.e1, .int .i64 yf.lim, .int .i64 ya, .int .u64 (yl : Int), .bool false, .int .u64 (yt : Int)] := (((((((((xx.set 0 (.string yf.b0)).set 1 (.string yf.b1)).set 2 (.int .i64 yf.e0)).set 3 (.int .i64 yf.e1)).set 4 (.int .i64 yf.lim)).set 5 (.int .i64 ya)).set 6 (.int .u64 (yl : Int))).set 7 (.bool false)).set 8 (.int .u64 (yt : Int)))
            replace hB : Below W.heap.size W (((((((((V5.setCell ⟨V3.heap.size, 0, none⟩ (.string yf.b0)).setCell ⟨V3.heap.size, 1, none⟩ (.string yf.b1)).setCell ⟨V3.heap.size, 2, none⟩ (.int .i64 yf.e0)).setCell ⟨V3.heap.size, 3, none⟩ (.int .i64 yf.e1)).setCell ⟨V3.heap.size, 4, none⟩ (.int .i64 yf.lim)).setCell ⟨V3.heap.size, 5, none⟩ (.int .i64 ya)).setCell ⟨V3.heap.size, 6, none⟩ (.int .u64 (yl : Int))).setCell ⟨V3.heap.size, 7, none⟩ (.bool false)).setCell ⟨V3.heap.size, 8, none⟩ (.int .u64 (yt : Int))) := (((((((((hB.setCell le_xx _).setCell le_xx _).setCell le_xx _).setCell le_xx _).setCell le_xx _).setCell le_xx _).setCell le_xx _).setCell le_xx _).setCell le_xx _)
            generalize (((((((((V5.setCell ⟨V3.heap.size, 0, none⟩ (.string yf.b0)).setCell ⟨V3.heap.size, 1, none⟩ (.string yf.b1)).setCell ⟨V3.heap.size, 2, none⟩ (.int .i64 yf.e0)).setCell ⟨V3.heap.size, 3, none⟩ (.int .i64 yf.e1)).setCell ⟨V3.heap.size, 4, none⟩ (.int .i64 yf.lim)).setCell ⟨V3.heap.size, 5, none⟩ (.int .i64 ya)).setCell ⟨V3.heap.size, 6, none⟩ (.int .u64 (yl : Int))).setCell ⟨V3.heap.size, 7, none⟩ (.bool false)).setCell ⟨V3.heap.size, 8, none⟩ (.int .u64 (yt : Int))) = V6 at *
            clear hHeld
            refine hK.out _ _ ?_ (fun hHeld => ?_)
            · exact ⟨(HC.out _ hB).1, (HC.out _ hB).2.1, (HC.out _ hB).2.2⟩
            clear hK K
            try simp only [Act.put, List.getElem_toArray, List.getElem_cons_zero, List.getElem_cons_succ, List.setIfInBounds_toArray, List.set_cons_zero, List.set_cons_succ]
            refine wpAnyH_done (by kernel_rfl) ?_ _
            clear hHeld
            have xx0 := xx.cell 0 rfl
            have xxz0 := xx.frozen 0
            have xx1 := xx.cell 1 rfl
            have xxz1 := xx.frozen 1
            have xx2 := xx.cell 2 rfl
            have xxz2 := xx.frozen 2
            have xx3 := xx.cell 3 rfl
            have xxz3 := xx.frozen 3
            have xx4 := xx.cell 4 rfl
            have xxz4 := xx.frozen 4
            have xx5 := xx.cell 5 rfl
            have xxz5 := xx.frozen 5
            have xx6 := xx.cell 6 rfl
            have xxz6 := xx.frozen 6
            have xx7 := xx.cell 7 rfl
            have xxz7 := xx.frozen 7
            have xx8 := xx.cell 8 rfl
            have xxz8 := xx.frozen 8
            go_wp2_with fail
            refine (TS.out _).mono ?_
            rintro e V7 ⟨rfl, hk⟩
            clear xx0 xxz0 xx1 xxz1 xx2 xxz2 xx3 xxz3 xx4 xxz4 xx5 xxz5 xx6 xxz6 xx7 xxz7 xx8 xxz8
            replace hB := below_seq hB hk
            replace xx := xx.seq hk
            clear hk
            have xx0 := xx.cell 0 rfl
            have xxz0 := xx.frozen 0
            have xx1 := xx.cell 1 rfl
            have xxz1 := xx.frozen 1
            have xx2 := xx.cell 2 rfl
            have xxz2 := xx.frozen 2
            have xx3 := xx.cell 3 rfl
            have xxz3 := xx.frozen 3
            have xx4 := xx.cell 4 rfl
            have xxz4 := xx.frozen 4
            have xx5 := xx.cell 5 rfl
            have xxz5 := xx.frozen 5
            have xx6 := xx.cell 6 rfl
            have xxz6 := xx.frozen 6
            have xx7 := xx.cell 7 rfl
            have xxz7 := xx.frozen 7
            have xx8 := xx.cell 8 rfl
            have xxz8 := xx.frozen 8
            go_wp2
            clear xx0 xxz0 xx1 xxz1 xx2 xxz2 xx3 xxz3 xx4 xxz4 xx5 xxz5 xx6 xxz6 xx7 xxz7 xx8 xxz8
            go_roundw
            case rel => exact ⟨j + 1, _, by omega, by go_num, HY.out, hyf, xx, hB⟩
            case measure => simp [intOf]; omega
        · obtain ⟨h0, hd⟩ := HY.out.flies rfl
          dsimp only at h0 hd
          by_cases ha : 0 < ya
          · have m1 : ya > 0 := ha
            rw [h0, hd] at TS
            go_wp2_with fail
            replace hB := hB.drew
            replace xx := xx.drew
            refine wp_region_held_drew (S := fun w' => w'.cell? ⟨g, off + j * 3, none⟩ = some (.int .u64 (s.data : Int)) ∧ w'.cell? ⟨g, off + j * 3 + 1, none⟩ = some (.int .i64 s.cut) ∧ w'.cell? ⟨g, off + j * 3 + 2, none⟩ = some (.string s.mask)) (by kernel_rfl) ?_ (fun hHeld => ?_)
            · exact ⟨(HC.out _ hB).1, (HC.out _ hB).2.1, (HC.out _ hB).2.2⟩
            generalize wr.drew = V4 at *
            refine wpAnyH_take (i := 1) (v := ?_) rfl (by kernel_rfl) (by kernel_rfl) (by kernel_rfl) (fun _ _ _ h => h) (Or.inl ⟨by rfl, ?_⟩) (by assumption) ?_
            rotate_left
            · intro w hSw; (try dsimp only at hSw); go_simp; try with_reducible rfl
            try simp only [Act.put, List.getElem_toArray, List.getElem_cons_zero, List.getElem_cons_succ, List.setIfInBounds_toArray, List.set_cons_zero, List.set_cons_succ]
            refine wpAnyH_take (i := 2) (v := ?_) rfl (by kernel_rfl) (by kernel_rfl) (by kernel_rfl) (fun _ _ _ h => h) (Or.inl ⟨by rfl, ?_⟩) (by assumption) ?_
            rotate_left
            · intro w hSw; (try dsimp only at hSw); go_simp; try with_reducible rfl
            try simp only [Act.put, List.getElem_toArray, List.getElem_cons_zero, List.getElem_cons_succ, List.setIfInBounds_toArray, List.set_cons_zero, List.set_cons_succ]
            refine wpAnyH_take (i := 3) (v := ?_) rfl (by kernel_rfl) (by kernel_rfl) (by kernel_rfl) (fun _ _ _ h => h) (Or.inl ⟨by rfl, ?_⟩) (by assumption) ?_
            rotate_left
            · intro w hSw; (try dsimp only at hSw); go_simp; try with_reducible rfl
            try simp only [Act.put, List.getElem_toArray, List.getElem_cons_zero, List.getElem_cons_succ, List.setIfInBounds_toArray, List.set_cons_zero, List.set_cons_succ]
            refine wpAnyH_take (i := 4) (v := ?_) rfl (by kernel_rfl) (by kernel_rfl) (by kernel_rfl) (fun _ _ _ h => h) (Or.inl ⟨by rfl, ?_⟩) (by assumption) ?_
            rotate_left
            · intro w hSw; (try dsimp only at hSw); go_simp; try with_reducible rfl
            try simp only [Act.put, List.getElem_toArray, List.getElem_cons_zero, List.getElem_cons_succ, List.setIfInBounds_toArray, List.set_cons_zero, List.set_cons_succ]
            refine wpAnyH_ready (rs := [0]) (by kernel_rfl) (by simp) ?_
            refine AllReadyH.cons rfl (fun K hK => ?_) AllReadyH.nil
            have xx0 := xx.cell 0 rfl
            have xxz0 := xx.frozen 0
            have xx1 := xx.cell 1 rfl
            have xxz1 := xx.frozen 1
            have xx2 := xx.cell 2 rfl
            have xxz2 := xx.frozen 2
            have xx3 := xx.cell 3 rfl
            have xxz3 := xx.frozen 3
            have xx4 := xx.cell 4 rfl
            have xxz4 := xx.frozen 4
            have xx5 := xx.cell 5 rfl
            have xxz5 := xx.frozen 5
            have xx6 := xx.cell 6 rfl
            have xxz6 := xx.frozen 6
            have xx7 := xx.cell 7 rfl
            have xxz7 := xx.frozen 7
            have xx8 := xx.cell 8 rfl
            have xxz8 := xx.frozen 8
            go_simp
            try go_wp2_with fail
            clear xx0 xxz0 xx1 xxz1 xx2 xxz2 xx3 xxz3 xx4 xxz4 xx5 xxz5 xx6 xxz6 xx7 xxz7 xx8 xxz8
            clear hHeld
            refine hK.out _ _ ?_ (fun hHeld => ?_)
            · exact ⟨(HC.out _ hB).1, (HC.out _ hB).2.1, (HC.out _ hB).2.2⟩
            clear hK K
            try simp only [Act.put, List.getElem_toArray, List.getElem_cons_zero, List.getElem_cons_succ, List.setIfInBounds_toArray, List.set_cons_zero, List.set_cons_succ]
            refine wpAnyH_ready (rs := [5]) (by kernel_rfl) (by simp) ?_
            refine AllReadyH.cons rfl (fun K hK => ?_) AllReadyH.nil
            have xx0 := xx.cell 0 rfl
            have xxz0 := xx.frozen 0
            have xx1 := xx.cell 1 rfl
            have xxz1 := xx.frozen 1
            have xx2 := xx.cell 2 rfl
            have xxz2 := xx.frozen 2
            have xx3 := xx.cell 3 rfl
            have xxz3 := xx.frozen 3
            have xx4 := xx.cell 4 rfl
            have xxz4 := xx.frozen 4
            have xx5 := xx.cell 5 rfl
            have xxz5 := xx.frozen 5
            have xx6 := xx.cell 6 rfl
            have xxz6 := xx.frozen 6
            have xx7 := xx.cell 7 rfl
            have xxz7 := xx.frozen 7
            have xx8 := xx.cell 8 rfl
            have xxz8 := xx.frozen 8
            go_simp
            refine (TP.out _).mono ?_
            rintro e V5 ⟨rfl, hk⟩
            clear xx0 xxz0 xx1 xxz1 xx2 xxz2 xx3 xxz3 xx4 xxz4 xx5 xxz5 xx6 xxz6 xx7 xxz7 xx8 xxz8
            replace hB := below_seq hB hk
            replace xx := xx.seq hk
            clear hk
            have xx0 := xx.cell 0 rfl
            have xxz0 := xx.frozen 0
            have xx1 := xx.cell 1 rfl
            have xxz1 := xx.frozen 1
            have xx2 := xx.cell 2 rfl
            have xxz2 := xx.frozen 2
            have xx3 := xx.cell 3 rfl
            have xxz3 := xx.frozen 3
            have xx4 := xx.cell 4 rfl
            have xxz4 := xx.frozen 4
            have xx5 := xx.cell 5 rfl
            have xxz5 := xx.frozen 5
            have xx6 := xx.cell 6 rfl
            have xxz6 := xx.frozen 6
            have xx7 := xx.cell 7 rfl
            have xxz7 := xx.frozen 7
            have xx8 := xx.cell 8 rfl
            have xxz8 := xx.frozen 8
            try go_wp2_with fail
            clear xx0 xxz0 xx1 xxz1 xx2 xxz2 xx3 xxz3 xx4 xxz4 xx5 xxz5 xx6 xxz6 xx7 xxz7 xx8 xxz8
            clear hHeld
            refine hK.out _ _ ?_ (fun hHeld => ?_)
            · exact ⟨(HC.out _ hB).1, (HC.out _ hB).2.1, (HC.out _ hB).2.2⟩
            clear hK K
            try simp only [Act.put, List.getElem_toArray, List.getElem_cons_zero, List.getElem_cons_succ, List.setIfInBounds_toArray, List.set_cons_zero, List.set_cons_succ]
            refine wpAnyH_ready (rs := [6]) (by kernel_rfl) (by simp) ?_
            refine AllReadyH.cons rfl (fun K hK => ?_) AllReadyH.nil
            have xx0 := xx.cell 0 rfl
            have xxz0 := xx.frozen 0
            have xx1 := xx.cell 1 rfl
            have xxz1 := xx.frozen 1
            have xx2 := xx.cell 2 rfl
            have xxz2 := xx.frozen 2
            have xx3 := xx.cell 3 rfl
            have xxz3 := xx.frozen 3
            have xx4 := xx.cell 4 rfl
            have xxz4 := xx.frozen 4
            have xx5 := xx.cell 5 rfl
            have xxz5 := xx.frozen 5
            have xx6 := xx.cell 6 rfl
            have xxz6 := xx.frozen 6
            have xx7 := xx.cell 7 rfl
            have xxz7 := xx.frozen 7
            have xx8 := xx.cell 8 rfl
            have xxz8 := xx.frozen 8
            go_simp
            try go_wp2_with fail
            clear xx0 xxz0 xx1 xxz1 xx2 xxz2 xx3 xxz3 xx4 xxz4 xx5 xxz5 xx6 xxz6 xx7 xxz7 xx8 xxz8
            replace xx : Box 33 (((((((((V5.setCell ⟨V3.heap.size, 0, none⟩ (.string yf.b0)).setCell ⟨V3.heap.size, 1, none⟩ (.string yf.b1)).setCell ⟨V3.heap.size, 2, none⟩ (.int .i64 yf.e0)).setCell ⟨V3.heap.size, 3, none⟩ (.int .i64 yf.e1)).setCell ⟨V3.heap.size, 4, none⟩ (.int .i64 yf.lim)).setCell ⟨V3.heap.size, 5, none⟩ (.int .i64 ya)).setCell ⟨V3.heap.size, 6, none⟩ (.int .u64 (yl : Int))).setCell ⟨V3.heap.size, 7, none⟩ (.bool true)).setCell ⟨V3.heap.size, 8, none⟩ (.int .u64 (yt : Int))) (V3.heap.size) [.string yf.b0, .string yf.b1, .int .i64 yf.e0, .int .i64 yf.e1, .int .i64 yf.lim, .int .i64 ya, .int .u64 (yl : Int), .bool true, .int .u64 (yt : Int)] := (((((((((xx.set 0 (.string yf.b0)).set 1 (.string yf.b1)).set 2 (.int .i64 yf.e0)).set 3 (.int .i64 yf.e1)).set 4 (.int .i64 yf.lim)).set 5 (.int .i64 ya)).set 6 (.int .u64 (yl : Int))).set 7 (.bool true)).set 8 (.int .u64 (yt : Int)))
            replace hB : Below W.heap.size W (((((((((V5.setCell ⟨V3.heap.size, 0, none⟩ (.string yf.b0)).setCell ⟨V3.heap.size, 1, none⟩ (.string yf.b1)).setCell ⟨V3.heap.size, 2, none⟩ (.int .i64 yf.e0)).setCell ⟨V3.heap.size, 3, none⟩ (.int .i64 yf.e1)).setCell ⟨V3.heap.size, 4, none⟩ (.int .i64 yf.lim)).setCell ⟨V3.heap.size, 5, none⟩ (.int .i64 ya)).setCell ⟨V3.heap.size, 6, none⟩ (.int .u64 (yl : Int))).setCell ⟨V3.heap.size, 7, none⟩ (.bool true)).setCell ⟨V3.heap.size, 8, none⟩ (.int .u64 (yt : Int))) := (((((((((hB.setCell le_xx _).setCell le_xx _).setCell le_xx _).setCell le_xx _).setCell le_xx _).setCell le_xx _).setCell le_xx _).setCell le_xx _).setCell le_xx _)
            generalize (((((((((V5.setCell ⟨V3.heap.size, 0, none⟩ (.string yf.b0)).setCell ⟨V3.heap.size, 1, none⟩ (.string yf.b1)).setCell ⟨V3.heap.size, 2, none⟩ (.int .i64 yf.e0)).setCell ⟨V3.heap.size, 3, none⟩ (.int .i64 yf.e1)).setCell ⟨V3.heap.size, 4, none⟩ (.int .i64 yf.lim)).setCell ⟨V3.heap.size, 5, none⟩ (.int .i64 ya)).setCell ⟨V3.heap.size, 6, none⟩ (.int .u64 (yl : Int))).setCell ⟨V3.heap.size, 7, none⟩ (.bool true)).setCell ⟨V3.heap.size, 8, none⟩ (.int .u64 (yt : Int))) = V6 at *
            clear hHeld
            refine hK.out _ _ ?_ (fun hHeld => ?_)
            · exact ⟨(HC.out _ hB).1, (HC.out _ hB).2.1, (HC.out _ hB).2.2⟩
            clear hK K
            try simp only [Act.put, List.getElem_toArray, List.getElem_cons_zero, List.getElem_cons_succ, List.setIfInBounds_toArray, List.set_cons_zero, List.set_cons_succ]
            refine wpAnyH_done (by kernel_rfl) ?_ _
            clear hHeld
            have xx0 := xx.cell 0 rfl
            have xxz0 := xx.frozen 0
            have xx1 := xx.cell 1 rfl
            have xxz1 := xx.frozen 1
            have xx2 := xx.cell 2 rfl
            have xxz2 := xx.frozen 2
            have xx3 := xx.cell 3 rfl
            have xxz3 := xx.frozen 3
            have xx4 := xx.cell 4 rfl
            have xxz4 := xx.frozen 4
            have xx5 := xx.cell 5 rfl
            have xxz5 := xx.frozen 5
            have xx6 := xx.cell 6 rfl
            have xxz6 := xx.frozen 6
            have xx7 := xx.cell 7 rfl
            have xxz7 := xx.frozen 7
            have xx8 := xx.cell 8 rfl
            have xxz8 := xx.frozen 8
            go_wp2_with fail
            refine (TS.out _).mono ?_
            rintro e V7 ⟨rfl, hk⟩
            clear xx0 xxz0 xx1 xxz1 xx2 xxz2 xx3 xxz3 xx4 xxz4 xx5 xxz5 xx6 xxz6 xx7 xxz7 xx8 xxz8
            replace hB := below_seq hB hk
            replace xx := xx.seq hk
            clear hk
            have xx0 := xx.cell 0 rfl
            have xxz0 := xx.frozen 0
            have xx1 := xx.cell 1 rfl
            have xxz1 := xx.frozen 1
            have xx2 := xx.cell 2 rfl
            have xxz2 := xx.frozen 2
            have xx3 := xx.cell 3 rfl
            have xxz3 := xx.frozen 3
            have xx4 := xx.cell 4 rfl
            have xxz4 := xx.frozen 4
            have xx5 := xx.cell 5 rfl
            have xxz5 := xx.frozen 5
            have xx6 := xx.cell 6 rfl
            have xxz6 := xx.frozen 6
            have xx7 := xx.cell 7 rfl
            have xxz7 := xx.frozen 7
            have xx8 := xx.cell 8 rfl
            have xxz8 := xx.frozen 8
            go_wp2
            clear xx0 xxz0 xx1 xxz1 xx2 xxz2 xx3 xxz3 xx4 xxz4 xx5 xxz5 xx6 xxz6 xx7 xxz7 xx8 xxz8
            go_roundw
            case rel => exact ⟨j + 1, _, by omega, by go_num, HY.out, hyf, xx, hB⟩
            case measure => simp [intOf]; omega
          · have m1 : ¬ ya > 0 := ha
            rw [h0, hd] at TS
            go_wp2_with fail
            replace hB := hB.drew
            replace xx := xx.drew
            refine wp_region_held_drew (S := fun w' => w'.cell? ⟨g, off + j * 3, none⟩ = some (.int .u64 (s.data : Int)) ∧ w'.cell? ⟨g, off + j * 3 + 1, none⟩ = some (.int .i64 s.cut) ∧ w'.cell? ⟨g, off + j * 3 + 2, none⟩ = some (.string s.mask)) (by kernel_rfl) ?_ (fun hHeld => ?_)
            · exact ⟨(HC.out _ hB).1, (HC.out _ hB).2.1, (HC.out _ hB).2.2⟩
            generalize wr.drew = V4 at *
            refine wpAnyH_take (i := 1) (v := ?_) rfl (by kernel_rfl) (by kernel_rfl) (by kernel_rfl) (fun _ _ _ h => h) (Or.inl ⟨by rfl, ?_⟩) (by assumption) ?_
            rotate_left
            · intro w hSw; (try dsimp only at hSw); go_simp; try with_reducible rfl
            try simp only [Act.put, List.getElem_toArray, List.getElem_cons_zero, List.getElem_cons_succ, List.setIfInBounds_toArray, List.set_cons_zero, List.set_cons_succ]
            refine wpAnyH_take (i := 2) (v := ?_) rfl (by kernel_rfl) (by kernel_rfl) (by kernel_rfl) (fun _ _ _ h => h) (Or.inl ⟨by rfl, ?_⟩) (by assumption) ?_
            rotate_left
            · intro w hSw; (try dsimp only at hSw); go_simp; try with_reducible rfl
            try simp only [Act.put, List.getElem_toArray, List.getElem_cons_zero, List.getElem_cons_succ, List.setIfInBounds_toArray, List.set_cons_zero, List.set_cons_succ]
            refine wpAnyH_take (i := 3) (v := ?_) rfl (by kernel_rfl) (by kernel_rfl) (by kernel_rfl) (fun _ _ _ h => h) (Or.inl ⟨by rfl, ?_⟩) (by assumption) ?_
            rotate_left
            · intro w hSw; (try dsimp only at hSw); go_simp; try with_reducible rfl
            try simp only [Act.put, List.getElem_toArray, List.getElem_cons_zero, List.getElem_cons_succ, List.setIfInBounds_toArray, List.set_cons_zero, List.set_cons_succ]
            refine wpAnyH_take (i := 4) (v := ?_) rfl (by kernel_rfl) (by kernel_rfl) (by kernel_rfl) (fun _ _ _ h => h) (Or.inl ⟨by rfl, ?_⟩) (by assumption) ?_
            rotate_left
            · intro w hSw; (try dsimp only at hSw); go_simp; try with_reducible rfl
            try simp only [Act.put, List.getElem_toArray, List.getElem_cons_zero, List.getElem_cons_succ, List.setIfInBounds_toArray, List.set_cons_zero, List.set_cons_succ]
            refine wpAnyH_ready (rs := [0]) (by kernel_rfl) (by simp) ?_
            refine AllReadyH.cons rfl (fun K hK => ?_) AllReadyH.nil
            have xx0 := xx.cell 0 rfl
            have xxz0 := xx.frozen 0
            have xx1 := xx.cell 1 rfl
            have xxz1 := xx.frozen 1
            have xx2 := xx.cell 2 rfl
            have xxz2 := xx.frozen 2
            have xx3 := xx.cell 3 rfl
            have xxz3 := xx.frozen 3
            have xx4 := xx.cell 4 rfl
            have xxz4 := xx.frozen 4
            have xx5 := xx.cell 5 rfl
            have xxz5 := xx.frozen 5
            have xx6 := xx.cell 6 rfl
            have xxz6 := xx.frozen 6
            have xx7 := xx.cell 7 rfl
            have xxz7 := xx.frozen 7
            have xx8 := xx.cell 8 rfl
            have xxz8 := xx.frozen 8
            go_simp
            try go_wp2_with fail
            clear xx0 xxz0 xx1 xxz1 xx2 xxz2 xx3 xxz3 xx4 xxz4 xx5 xxz5 xx6 xxz6 xx7 xxz7 xx8 xxz8
            clear hHeld
            refine hK.out _ _ ?_ (fun hHeld => ?_)
            · exact ⟨(HC.out _ hB).1, (HC.out _ hB).2.1, (HC.out _ hB).2.2⟩
            clear hK K
            try simp only [Act.put, List.getElem_toArray, List.getElem_cons_zero, List.getElem_cons_succ, List.setIfInBounds_toArray, List.set_cons_zero, List.set_cons_succ]
            refine wpAnyH_ready (rs := [5]) (by kernel_rfl) (by simp) ?_
            refine AllReadyH.cons rfl (fun K hK => ?_) AllReadyH.nil
            have xx0 := xx.cell 0 rfl
            have xxz0 := xx.frozen 0
            have xx1 := xx.cell 1 rfl
            have xxz1 := xx.frozen 1
            have xx2 := xx.cell 2 rfl
            have xxz2 := xx.frozen 2
            have xx3 := xx.cell 3 rfl
            have xxz3 := xx.frozen 3
            have xx4 := xx.cell 4 rfl
            have xxz4 := xx.frozen 4
            have xx5 := xx.cell 5 rfl
            have xxz5 := xx.frozen 5
            have xx6 := xx.cell 6 rfl
            have xxz6 := xx.frozen 6
            have xx7 := xx.cell 7 rfl
            have xxz7 := xx.frozen 7
            have xx8 := xx.cell 8 rfl
            have xxz8 := xx.frozen 8
            go_simp
            refine (TP.out _).mono ?_
            rintro e V5 ⟨rfl, hk⟩
            clear xx0 xxz0 xx1 xxz1 xx2 xxz2 xx3 xxz3 xx4 xxz4 xx5 xxz5 xx6 xxz6 xx7 xxz7 xx8 xxz8
            replace hB := below_seq hB hk
            replace xx := xx.seq hk
            clear hk
            have xx0 := xx.cell 0 rfl
            have xxz0 := xx.frozen 0
            have xx1 := xx.cell 1 rfl
            have xxz1 := xx.frozen 1
            have xx2 := xx.cell 2 rfl
            have xxz2 := xx.frozen 2
            have xx3 := xx.cell 3 rfl
            have xxz3 := xx.frozen 3
            have xx4 := xx.cell 4 rfl
            have xxz4 := xx.frozen 4
            have xx5 := xx.cell 5 rfl
            have xxz5 := xx.frozen 5
            have xx6 := xx.cell 6 rfl
            have xxz6 := xx.frozen 6
            have xx7 := xx.cell 7 rfl
            have xxz7 := xx.frozen 7
            have xx8 := xx.cell 8 rfl
            have xxz8 := xx.frozen 8
            try go_wp2_with fail
            clear xx0 xxz0 xx1 xxz1 xx2 xxz2 xx3 xxz3 xx4 xxz4 xx5 xxz5 xx6 xxz6 xx7 xxz7 xx8 xxz8
            clear hHeld
            refine hK.out _ _ ?_ (fun hHeld => ?_)
            · exact ⟨(HC.out _ hB).1, (HC.out _ hB).2.1, (HC.out _ hB).2.2⟩
            clear hK K
            try simp only [Act.put, List.getElem_toArray, List.getElem_cons_zero, List.getElem_cons_succ, List.setIfInBounds_toArray, List.set_cons_zero, List.set_cons_succ]
            refine wpAnyH_ready (rs := [6]) (by kernel_rfl) (by simp) ?_
            refine AllReadyH.cons rfl (fun K hK => ?_) AllReadyH.nil
            have xx0 := xx.cell 0 rfl
            have xxz0 := xx.frozen 0
            have xx1 := xx.cell 1 rfl
            have xxz1 := xx.frozen 1
            have xx2 := xx.cell 2 rfl
            have xxz2 := xx.frozen 2
            have xx3 := xx.cell 3 rfl
            have xxz3 := xx.frozen 3
            have xx4 := xx.cell 4 rfl
            have xxz4 := xx.frozen 4
            have xx5 := xx.cell 5 rfl
            have xxz5 := xx.frozen 5
            have xx6 := xx.cell 6 rfl
            have xxz6 := xx.frozen 6
            have xx7 := xx.cell 7 rfl
            have xxz7 := xx.frozen 7
            have xx8 := xx.cell 8 rfl
            have xxz8 := xx.frozen 8
            go_simp
            try go_wp2_with fail
            clear xx0 xxz0 xx1 xxz1 xx2 xxz2 xx3 xxz3 xx4 xxz4 xx5 xxz5 xx6 xxz6 xx7 xxz7 xx8 xxz8
            replace xx : Box 33 (((((((((V5.setCell ⟨V3.heap.size, 0, none⟩ (.string yf.b0)).setCell ⟨V3.heap.size, 1, none⟩ (.string yf.b1)).setCell ⟨V3.heap.size, 2, none⟩ (.int .i64 yf.e0)).setCell ⟨V3.heap.size, 3, none⟩ (.int .i64 yf.e1)).setCell ⟨V3.heap.size, 4, none⟩ (.int .i64 yf.lim)).setCell ⟨V3.heap.size, 5, none⟩ (.int .i64 ya)).setCell ⟨V3.heap.size, 6, none⟩ (.int .u64 (yl : Int))).setCell ⟨V3.heap.size, 7, none⟩ (.bool true)).setCell ⟨V3.heap.size, 8, none⟩ (.int .u64 (yt : Int))) (V3.heap.size) [.string yf.b0, .string yf.b1, .int .i64 yf.e0, .int .i64 yf.e1, .int .i64 yf.lim, .int .i64 ya, .int .u64 (yl : Int), .bool true, .int .u64 (yt : Int)] := (((((((((xx.set 0 (.string yf.b0)).set 1 (.string yf.b1)).set 2 (.int .i64 yf.e0)).set 3 (.int .i64 yf.e1)).set 4 (.int .i64 yf.lim)).set 5 (.int .i64 ya)).set 6 (.int .u64 (yl : Int))).set 7 (.bool true)).set 8 (.int .u64 (yt : Int)))
            replace hB : Below W.heap.size W (((((((((V5.setCell ⟨V3.heap.size, 0, none⟩ (.string yf.b0)).setCell ⟨V3.heap.size, 1, none⟩ (.string yf.b1)).setCell ⟨V3.heap.size, 2, none⟩ (.int .i64 yf.e0)).setCell ⟨V3.heap.size, 3, none⟩ (.int .i64 yf.e1)).setCell ⟨V3.heap.size, 4, none⟩ (.int .i64 yf.lim)).setCell ⟨V3.heap.size, 5, none⟩ (.int .i64 ya)).setCell ⟨V3.heap.size, 6, none⟩ (.int .u64 (yl : Int))).setCell ⟨V3.heap.size, 7, none⟩ (.bool true)).setCell ⟨V3.heap.size, 8, none⟩ (.int .u64 (yt : Int))) := (((((((((hB.setCell le_xx _).setCell le_xx _).setCell le_xx _).setCell le_xx _).setCell le_xx _).setCell le_xx _).setCell le_xx _).setCell le_xx _).setCell le_xx _)
            generalize (((((((((V5.setCell ⟨V3.heap.size, 0, none⟩ (.string yf.b0)).setCell ⟨V3.heap.size, 1, none⟩ (.string yf.b1)).setCell ⟨V3.heap.size, 2, none⟩ (.int .i64 yf.e0)).setCell ⟨V3.heap.size, 3, none⟩ (.int .i64 yf.e1)).setCell ⟨V3.heap.size, 4, none⟩ (.int .i64 yf.lim)).setCell ⟨V3.heap.size, 5, none⟩ (.int .i64 ya)).setCell ⟨V3.heap.size, 6, none⟩ (.int .u64 (yl : Int))).setCell ⟨V3.heap.size, 7, none⟩ (.bool true)).setCell ⟨V3.heap.size, 8, none⟩ (.int .u64 (yt : Int))) = V6 at *
            clear hHeld
            refine hK.out _ _ ?_ (fun hHeld => ?_)
            · exact ⟨(HC.out _ hB).1, (HC.out _ hB).2.1, (HC.out _ hB).2.2⟩
            clear hK K
            try simp only [Act.put, List.getElem_toArray, List.getElem_cons_zero, List.getElem_cons_succ, List.setIfInBounds_toArray, List.set_cons_zero, List.set_cons_succ]
            refine wpAnyH_done (by kernel_rfl) ?_ _
            clear hHeld
            have xx0 := xx.cell 0 rfl
            have xxz0 := xx.frozen 0
            have xx1 := xx.cell 1 rfl
            have xxz1 := xx.frozen 1
            have xx2 := xx.cell 2 rfl
            have xxz2 := xx.frozen 2
            have xx3 := xx.cell 3 rfl
            have xxz3 := xx.frozen 3
            have xx4 := xx.cell 4 rfl
            have xxz4 := xx.frozen 4
            have xx5 := xx.cell 5 rfl
            have xxz5 := xx.frozen 5
            have xx6 := xx.cell 6 rfl
            have xxz6 := xx.frozen 6
            have xx7 := xx.cell 7 rfl
            have xxz7 := xx.frozen 7
            have xx8 := xx.cell 8 rfl
            have xxz8 := xx.frozen 8
            go_wp2_with fail
            refine (TS.out _).mono ?_
            rintro e V7 ⟨rfl, hk⟩
            clear xx0 xxz0 xx1 xxz1 xx2 xxz2 xx3 xxz3 xx4 xxz4 xx5 xxz5 xx6 xxz6 xx7 xxz7 xx8 xxz8
            replace hB := below_seq hB hk
            replace xx := xx.seq hk
            clear hk
            have xx0 := xx.cell 0 rfl
            have xxz0 := xx.frozen 0
            have xx1 := xx.cell 1 rfl
            have xxz1 := xx.frozen 1
            have xx2 := xx.cell 2 rfl
            have xxz2 := xx.frozen 2
            have xx3 := xx.cell 3 rfl
            have xxz3 := xx.frozen 3
            have xx4 := xx.cell 4 rfl
            have xxz4 := xx.frozen 4
            have xx5 := xx.cell 5 rfl
            have xxz5 := xx.frozen 5
            have xx6 := xx.cell 6 rfl
            have xxz6 := xx.frozen 6
            have xx7 := xx.cell 7 rfl
            have xxz7 := xx.frozen 7
            have xx8 := xx.cell 8 rfl
            have xxz8 := xx.frozen 8
            go_wp2
            clear xx0 xxz0 xx1 xxz1 xx2 xxz2 xx3 xxz3 xx4 xxz4 xx5 xxz5 xx6 xxz6 xx7 xxz7 xx8 xxz8
            go_roundw
            case rel => exact ⟨j + 1, _, by omega, by go_num, HY.out, hyf, xx, hB⟩
            case measure => simp [intOf]; omega
      · obtain rfl : j = l.length := by omega
        clear HL
        go_wp2
        go_ret
        exact ⟨rfl, hB⟩

theorem own : ownKnob Try.prog.godebug = none := by kernel_rfl

set_option maxRecDepth 100000 in
theorem lifted (os : Os) (started : os.Started) (H : Type) (enc : TypeId × Value → H) :
    ReturnsInHanded {} Try.checked os 3 .any (Rows.journalSafeSpec.pre6 enc Try.prog Try.f3 Rows.journalSafeRow.domain false) (Rows.journalSafeSpec.post enc Try.prog Try.f3 false true false false) := by
  refine returnsInHanded_of_change (C := Try.checked) own started (by kernel_rfl) Try.func3
    (ChangeSpec.witness6 (enc := enc) (C := Try.checked) false ⟨#[], #[.int .u8 0, .int .u8 0, .slice none 0 0], []⟩ 8 (by kernel_rfl) (by kernel_rfl) (by kernel_rfl) (by kernel_rfl)) ?_
  intro W base args ds gs before hval hW _ _
  have hW' := hW
  obtain ⟨p, q, hA0, hV, rfl, hfz, hnd⟩ := hW
  have hA : DataW.TrodAll enc Try.prog W 0 (fun _ => true) true Try.f3.params.toList args.toList ds p := hA0
  rw [Try.params3] at hA hval
  obtain ⟨v0, vs0, d0, ds0, p0, q0, hargs, rfl, rfl, h0, r0⟩ := trodAll_cons hA
  obtain ⟨v1, vs1, d1, ds1, p1, q1, rfl, rfl, rfl, h1, r1⟩ := trodAll_cons r0
  obtain ⟨v2, vs2, d2, ds2, p2, q2, rfl, rfl, rfl, h2, r2⟩ := trodAll_cons r1
  obtain ⟨rfl, rfl, rfl⟩ := trodAll_nil r2
  obtain rfl : args = #[v0, v1, v2] := by cases args; simp_all
  obtain ⟨rfl, rfl⟩ := trodVars_none hV
  obtain ⟨a0, rfl, rfl, rfl, w0⟩ := open_int Try.underlying5 (hval 0 5 v0 rfl rfl) h0
  obtain ⟨c0, rfl⟩ := int_u8 w0
  obtain ⟨a1, rfl, rfl, rfl, w1⟩ := open_int Try.underlying5 (hval 1 5 v1 rfl rfl) h1
  obtain ⟨c1, rfl⟩ := int_u8 w1
  have k2 := h2
  obtain ⟨s2, A2, c2, rfl, hs2, ho2, hp2, hq2⟩ := open_stps (hval 2 22 v2 rfl rfl) h2
  clear hA0
  simp only [List.append_nil] at hW'
  refine (walk c0 c1 s2 A2 c2 W hs2 ho2 hp2 hq2).mono fun e W' ⟨he, hB⟩ => ?_
  subst he
  exact ⟨_, rfl, ⟨_, _, _, [], _, [], hW', trodAll_cons_mk (shut_bool Try.underlying4 _) trodAll_mk0, (trodAll_cons_mk (shut_int Try.underlying5 w0) (trodAll_cons_mk (shut_int Try.underlying5 w1) (trodAll_cons_mk (Below.trod Try.laidOut (by kernel_rfl) (of_decide_eq_true (by kernel_rfl)) k2 hB (fun x hx => by simpa using hW'.lt x (by simp [hx]))) trodAll_mk0))), rfl, hB.frame _, fun h => by cases h⟩⟩

theorem holds : Rows.JournalSafeSaid :=
  OpenClaim.holds_of_wide 3 Try.f3 rfl rfl rfl rfl rfl rfl rfl ⟨rfl, rfl, rfl, rfl, rfl⟩ rfl rfl rfl rfl rfl (by kernel_rfl) Try.func3 (by kernel_rfl)
    (of_decide_eq_true (by kernel_rfl)) (by unfold Func.isWrapper; first | (rw [if_pos (by decide +kernel)]; kernel_rfl) | (rw [if_neg (by decide +kernel)]; exact ⟨rfl, rfl⟩))
    (fun os started H enc _ => lifted os started H enc)
end Go.Proofs.Ythmpjoiifglbjaa.JournalSafe

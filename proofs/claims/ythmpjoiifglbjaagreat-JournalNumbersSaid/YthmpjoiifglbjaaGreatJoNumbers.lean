/- Each state that is acknowledged has a greater number than all ahead of it (JournalNumbers); no condition. -/
import Derived.Test.YthmpjoiifglbjaaGreatJourLaw
import Derived.Test.YthmpjoiifglbjaaGreatJourOpen
import Derived.Deep.RegionHeld3
import Derived.WalkLawsBesides
import Derived.WalkSpells
import Derived.IntWalk
import Derived.Lib.Hide
import Derived.Test.YthmpjoiifglbjaaGreatBox
import Derived.ProofKit
import Derived.OpenShut
import Derived.ChangeMaps5
import Derived.Test.YthmpjoiifglbjaaGreatInts
namespace Go.Proofs.YthmpjoiifglbjaaGreat.JournalNumbers
open Go.ChangeShapes Go.WideShapes Go.ChangeAt Go.RowKit Go.ChangeMaps
set_option linter.unusedVariables false
set_option linter.unusedSimpArgs false

set_option maxRecDepth 100000 in
set_option maxHeartbeats 3000000 in
theorem walk (n : UInt8) (l : List Stp) (lA : Option Addr) (lc : Nat) (W : World) (hl : RowsAt 3 stpV W lA l) (hlo : ∀ o ∈ l, o.ok) (hl1 : l.length ≤ lc) (hl2 : lc ≤ maxLen) :
    Calls Tryz.prog 5 #[.int .u8 (n.toNat : Int), .slice lA l.length lc] W fun e W' => e = .returned (.bool true) ∧ Below W.heap.size W W' := by
  obtain ⟨K, hK⟩ : ∃ K : Nat, K = 1 + n.toNat % 12 := ⟨_, rfl⟩
  have hK12 : 1 ≤ K ∧ K ≤ 12 := by omega
  have k0 : wrap64 (n.toNat : Int) = (n.toNat : Int) := w64_u8 n
  have kw : (K : Int) = 1 + (n.toNat : Int) % 12 := by omega
  have hS := start_li hK12 (lim := 100) (by omega)
  have hF := newF_fit ((24 * K + 24 : Nat) : Int) 100 (by omega)
  have hL : (newF ((24 * K + 24 : Nat) : Int) 100).lim = 100 := (new_ji hK12 (lim := 100) (by omega)).2.2.1
  have TZ := Lib.hid (fun (V : World) => (show Calls Tryz.prog 19 #[.int .i64 (1 + (n.toNat : Int) % 12)] V fun e W' => e = .returned (.int .i64 ((24 * K + 24 : Nat) : Int)) ∧ W' = V from by have h := ref05Size (K : Int) V; rw [show sizeF (K : Int) = ((24 * K + 24 : Nat) : Int) from by unfold sizeF; rw [if_pos (by omega)]; omega] at h; rw [kw] at h; exact h))
  clear kw
  have TN := Lib.hid (fun (V : World) => flNew ((24 * K + 24 : Nat) : Int) 100 V)
  obtain ⟨F, hFF⟩ : ∃ F, newF ((24 * K + 24 : Nat) : Int) 100 = F := ⟨_, rfl⟩
  rw [hFF] at hS hF TN hL
  replace hL := Lib.hid hL
  obtain ⟨Z, hZ⟩ : ∃ Z : Int, ((24 * K + 24 : Nat) : Int) = Z := ⟨_, rfl⟩
  rw [hZ] at TZ TN
  clear hZ
  have hlh := Lib.hid hl
  clear hl
  by_cases hbig : big12 F l = true
  · have TBg := Lib.hid (fun (V : World) (h : RowsAt 3 stpV V lA l) => (show Calls Tryz.prog 6 #[.agg #[.string F.b0, .string F.b1, .int .i64 F.e0, .int .i64 F.e1, .int .i64 F.lim], .slice lA l.length lc] V fun e W' => e = .returned (.bool true) ∧ Below V.heap.size V W' from by have k := law12Big F l lA lc V hlo h ⟨hl1, hl2⟩; rwa [hbig] at k))
    clear hbig
    have hB : Below W.heap.size W W := Below.refl _ _
    go_enter Tryz.func5, Tryz.ntmps5
    go_wp2_with fail
    refine (TZ.out _).mono ?_
    rintro e w' ⟨rfl, hw⟩
    rw [hw]
    clear hw w'
    go_wp2_with fail
    refine (TN.out _).mono ?_
    rintro e V1 ⟨rfl, hk⟩
    replace hB := below_seq hB hk
    clear hk
    have xf := Box.new 25 V1 [.string F.b0, .string F.b1, .int .i64 F.e0, .int .i64 F.e1, .int .i64 F.lim]
    have le_xf : W.heap.size ≤ V1.heap.size := hB.size
    replace hB := hB.alloc hB.size (.cells #[.string F.b0, .string F.b1, .int .i64 F.e0, .int .i64 F.e1, .int .i64 F.lim] 25)
    have xf0 := xf.cell 0 rfl
    have xfz0 := xf.frozen 0
    have xf1 := xf.cell 1 rfl
    have xfz1 := xf.frozen 1
    have xf2 := xf.cell 2 rfl
    have xfz2 := xf.frozen 2
    have xf3 := xf.cell 3 rfl
    have xfz3 := xf.frozen 3
    have xf4 := xf.cell 4 rfl
    have xfz4 := xf.frozen 4
    go_wp2_with fail
    refine (TBg.out _ (hlh.out.seq hB)).mono ?_
    rintro e V2 ⟨rfl, hk⟩
    clear xf0 xfz0 xf1 xfz1 xf2 xfz2 xf3 xfz3 xf4 xfz4
    replace hB := below_seq hB hk
    replace xf := xf.seq hk
    clear hk
    have xf0 := xf.cell 0 rfl
    have xfz0 := xf.frozen 0
    have xf1 := xf.cell 1 rfl
    have xfz1 := xf.frozen 1
    have xf2 := xf.cell 2 rfl
    have xfz2 := xf.frozen 2
    have xf3 := xf.cell 3 rfl
    have xfz3 := xf.frozen 3
    have xf4 := xf.cell 4 rfl
    have xfz4 := xf.frozen 4
    go_wp2_with fail
    refine (shown12 _).mono ?_
    rintro e V3 ⟨rfl, hk⟩
    clear xf0 xfz0 xf1 xfz1 xf2 xfz2 xf3 xfz3 xf4 xfz4
    replace hB := below_seq hB hk
    replace xf := xf.seq hk
    clear hk
    have xf0 := xf.cell 0 rfl
    have xfz0 := xf.frozen 0
    have xf1 := xf.cell 1 rfl
    have xfz1 := xf.frozen 1
    have xf2 := xf.cell 2 rfl
    have xfz2 := xf.frozen 2
    have xf3 := xf.cell 3 rfl
    have xfz3 := xf.frozen 3
    have xf4 := xf.cell 4 rfl
    have xfz4 := xf.frozen 4
    go_wp2
    go_ret
    exact ⟨rfl, hB⟩
  · have hbig2 : big12 F l = false := by cases h : big12 F l with | false => rfl | true => exact absurd h hbig
    have TBg := Lib.hid (fun (V : World) (h : RowsAt 3 stpV V lA l) => (show Calls Tryz.prog 6 #[.agg #[.string F.b0, .string F.b1, .int .i64 F.e0, .int .i64 F.e1, .int .i64 F.lim], .slice lA l.length lc] V fun e W' => e = .returned (.bool false) ∧ Below V.heap.size V W' from by have k := law12Big F l lA lc V hlo h ⟨hl1, hl2⟩; rwa [hbig2] at k))
    have hl60 := big12_no hbig2
    clear hbig hbig2
    have HL := Lib.hid (fun k o hk => hlh.out.hop k o hk)
    clear hFF hL hK
    have hq0 : seqN F = 0 := by unfold seqN; rw [if_neg (fun h => ?_)]; exact (hS.p.1 h).elim (fun h2 => absurd h2 (Int.lt_irrefl 0)) (fun h2 => by cases h2)
    have hB : Below W.heap.size W W := Below.refl _ _
    go_enter Tryz.func5, Tryz.ntmps5
    go_wp2_with fail
    refine (TZ.out _).mono ?_
    rintro e w' ⟨rfl, hw⟩
    rw [hw]
    clear hw w'
    go_wp2_with fail
    refine (TN.out _).mono ?_
    rintro e V1 ⟨rfl, hk⟩
    replace hB := below_seq hB hk
    clear hk
    have xf := Box.new 25 V1 [.string F.b0, .string F.b1, .int .i64 F.e0, .int .i64 F.e1, .int .i64 F.lim]
    have le_xf : W.heap.size ≤ V1.heap.size := hB.size
    replace hB := hB.alloc hB.size (.cells #[.string F.b0, .string F.b1, .int .i64 F.e0, .int .i64 F.e1, .int .i64 F.lim] 25)
    have xf0 := xf.cell 0 rfl
    have xfz0 := xf.frozen 0
    have xf1 := xf.cell 1 rfl
    have xfz1 := xf.frozen 1
    have xf2 := xf.cell 2 rfl
    have xfz2 := xf.frozen 2
    have xf3 := xf.cell 3 rfl
    have xfz3 := xf.frozen 3
    have xf4 := xf.cell 4 rfl
    have xfz4 := xf.frozen 4
    go_wp2_with fail
    refine (TBg.out _ (hlh.out.seq hB)).mono ?_
    rintro e V2 ⟨rfl, hk⟩
    clear xf0 xfz0 xf1 xfz1 xf2 xfz2 xf3 xfz3 xf4 xfz4
    replace hB := below_seq hB hk
    replace xf := xf.seq hk
    clear hk
    have xf0 := xf.cell 0 rfl
    have xfz0 := xf.frozen 0
    have xf1 := xf.cell 1 rfl
    have xfz1 := xf.frozen 1
    have xf2 := xf.cell 2 rfl
    have xfz2 := xf.frozen 2
    have xf3 := xf.cell 3 rfl
    have xfz3 := xf.frozen 3
    have xf4 := xf.cell 4 rfl
    have xfz4 := xf.frozen 4
    go_wp2_with fail
    refine (shown12 _).mono ?_
    rintro e V3 ⟨rfl, hk⟩
    clear xf0 xfz0 xf1 xfz1 xf2 xfz2 xf3 xfz3 xf4 xfz4
    replace hB := below_seq hB hk
    replace xf := xf.seq hk
    clear hk
    have xf0 := xf.cell 0 rfl
    have xfz0 := xf.frozen 0
    have xf1 := xf.cell 1 rfl
    have xfz1 := xf.frozen 1
    have xf2 := xf.cell 2 rfl
    have xfz2 := xf.frozen 2
    have xf3 := xf.cell 3 rfl
    have xfz3 := xf.frozen 3
    have xf4 := xf.cell 4 rfl
    have xfz4 := xf.frozen 4
    go_wp2
    clear xf0 xfz0 xf1 xfz1 xf2 xfz2 xf3 xfz3 xf4 xfz4
    have xx := Box.new 43 V3 [.string F.b0, .string F.b1, .int .i64 F.e0, .int .i64 F.e1, .int .i64 F.lim, .int .i64 0, .int .u64 0, .bool false, .int .u64 0]
    have ne_xx_xf : V3.heap.size ≠ V1.heap.size := Nat.ne_of_gt xf.lt
    have le_xx : W.heap.size ≤ V3.heap.size := hB.size
    replace xf := xf.alloc (.cells #[.string F.b0, .string F.b1, .int .i64 F.e0, .int .i64 F.e1, .int .i64 F.lim, .int .i64 0, .int .u64 0, .bool false, .int .u64 0] 43)
    replace hB := hB.alloc hB.size (.cells #[.string F.b0, .string F.b1, .int .i64 F.e0, .int .i64 F.e1, .int .i64 F.lim, .int .i64 0, .int .u64 0, .bool false, .int .u64 0] 43)
    have xf0 := xf.cell 0 rfl
    have xfz0 := xf.frozen 0
    have xf1 := xf.cell 1 rfl
    have xfz1 := xf.frozen 1
    have xf2 := xf.cell 2 rfl
    have xfz2 := xf.frozen 2
    have xf3 := xf.cell 3 rfl
    have xfz3 := xf.frozen 3
    have xf4 := xf.cell 4 rfl
    have xfz4 := xf.frozen 4
    have xx0 := xx.cell 0 rfl
    have xxz0 := xx.frozen 0
    have xx1 := xx.cell 1 rfl
    have xxz1 := xx.frozen 1
    have xx2 := xx.cell 2 rfl
    have xxz2 := xx.frozen 2
    have xx3 := xx.cell 3 rfl
    have xxz3 := xx.frozen 3
    have xx4 := xx.cell 4 rfl
    have xxz4 := xx.frozen 4
    have xx5 := xx.cell 5 rfl
    have xxz5 := xx.frozen 5
    have xx6 := xx.cell 6 rfl
    have xxz6 := xx.frozen 6
    have xx7 := xx.cell 7 rfl
    have xxz7 := xx.frozen 7
    have xx8 := xx.cell 8 rfl
    have xxz8 := xx.frozen 8
    clear xf0 xfz0 xf1 xfz1 xf2 xfz2 xf3 xfz3 xf4 xfz4 xx0 xxz0 xx1 xxz1 xx2 xxz2 xx3 xxz3 xx4 xxz4 xx5 xxz5 xx6 xxz6 xx7 xxz7 xx8 xxz8
    go_loopw [7, 8] (fun q i w => ∃ (j : Nat) (x : Lg), j ≤ l.length ∧ i = .int .i64 j ∧ q = .int .u64 (seqN x.f : Int) ∧ LI K j x ∧ x.f.fit ∧ Box 43 w (V3.heap.size) [.string x.f.b0, .string x.f.b1, .int .i64 x.f.e0, .int .i64 x.f.e1, .int .i64 x.f.lim, .int .i64 x.acked, .int .u64 (x.last : Int), .bool x.flying, .int .u64 (x.flight : Int)] ∧ Below W.heap.size W w) (fun _ i _ => l.length - (intOf i).toNat)
    case atStart => exact ⟨0, startJ F, Nat.zero_le _, rfl, by rw [show (startJ F).f = F from rfl, hq0]; rfl, hS, hF, xx, hB⟩
    case round =>
      clear xx xf hB hS hF hq0
      obtain ⟨j, x, hj, rfl, rfl, HX, hxf, xx, hB⟩ := hrel
      by_cases hlt : j < l.length
      · obtain ⟨s, hjs⟩ : ∃ s, l[j]? = some s := ⟨_, List.getElem?_eq_getElem hlt⟩
        obtain ⟨g, off, rfl, HC0⟩ := HL.out j s hjs
        have HC := Lib.hid (show ∀ V : World, Below W.heap.size W V → V.cell? ⟨g, off + j * 3, none⟩ = some (.int .u64 (s.data : Int)) ∧ V.cell? ⟨g, off + j * 3 + 1, none⟩ = some (.int .i64 s.cut) ∧ V.cell? ⟨g, off + j * 3 + 2, none⟩ = some (.string s.mask) from fun V h => ⟨HC0 V h 0 (by decide), HC0 V h 1 (by decide), HC0 V h 2 (by decide)⟩)
        clear HC0
        have hs := hlo s (List.mem_of_getElem? hjs)
        obtain ⟨yf, ya, yl, yb, yt, hy⟩ : ∃ yf ya yl yb yt, playJ x s = ⟨yf, ya, yl, yb, yt⟩ := ⟨_, _, _, _, _, rfl⟩
        have HY := (play_li HX hs.nd).1
        have hyf := playJ_fit hxf s
        obtain ⟨n1, n2, n3, n4⟩ := num_step HX hs.nd
        rw [hy] at HY hyf n1 n2 n3 n4
        dsimp only at hyf n1 n2 n3 n4
        have TP := Lib.hid (fun (V : World) => (show Calls Tryz.prog 20 #[.agg #[.string x.f.b0, .string x.f.b1, .int .i64 x.f.e0, .int .i64 x.f.e1, .int .i64 x.f.lim, .int .i64 x.acked, .int .u64 (x.last : Int), .bool x.flying, .int .u64 (x.flight : Int)], .agg #[.int .u64 (s.data : Int), .int .i64 s.cut, .string s.mask]] V fun e W' => e = .returned (.agg #[.string yf.b0, .string yf.b1, .int .i64 yf.e0, .int .i64 yf.e1, .int .i64 yf.lim, .int .i64 ya, .int .u64 (yl : Int), .bool yb, .int .u64 (yt : Int)]) ∧ Below V.heap.size V W' from by have h := own12Play x s V hxf (HX.small (by omega)) hs; rw [hy] at h; exact h))
        have j0 : (0 : Int) ≤ (j : Int) := by omega
        have j1 : (j : Int) < (l.length : Int) := by omega
        have j2 : IntKind.i64.wrap ((j : Int) + 1) = (j : Int) + 1 := IntWalk.i64_in _ (by omega)
        clear hy hs hjs HX hxf HL
        replace HY := Lib.hid HY
        by_cases hE : pickE yf = 0
        · have hsq : seqN yf = (pickS yf).seq := seq_some hE
          have TR := Lib.hid (fun (V : World) => (show Calls Tryz.prog 21 #[.agg #[.string yf.b0, .string yf.b1, .int .i64 yf.e0, .int .i64 yf.e1, .int .i64 yf.lim]] V fun e W' => e = .returned (.tuple #[.agg #[.int .i64 (pickS yf).bank, .int .u64 ((pickS yf).gen : Int), .int .u64 ((pickS yf).seq : Int), .int .u64 ((pickS yf).data : Int)], .int .i64 0]) ∧ Below V.heap.size V W' from by have h := ref10Read yf V hyf.ok; rwa [hE] at h))
          rw [hsq] at n1 n2 n4
          generalize (pickS yf).bank = wb at *
          generalize (pickS yf).gen = wg at *
          generalize (pickS yf).seq = wq at *
          generalize (pickS yf).data = wd at *
          have m1 : ¬ (wq : Int) < (seqN x.f : Int) := by omega
          by_cases hA : x.acked < ya
          · have e4 := (n4 hA).2
            have m2 : ya > x.acked := hA
            have m3 : ¬ (wq : Int) ≤ (seqN x.f : Int) := by omega
            have m4 : ¬ (wq : Int) > (j : Int) + 1 := by omega
            replace hsq := Lib.hid hsq
            clear hA n1 n2 n3 n4 e4 hE
            go_wp2_with fail
            replace hB := hB.drew
            replace xx := xx.drew
            refine wp_region_held_drew (S := fun w' => w'.cell? ⟨V3.heap.size, 0, none⟩ = some (.string x.f.b0) ∧ w'.cell? ⟨V3.heap.size, 1, none⟩ = some (.string x.f.b1) ∧ w'.cell? ⟨V3.heap.size, 2, none⟩ = some (.int .i64 x.f.e0) ∧ w'.cell? ⟨V3.heap.size, 3, none⟩ = some (.int .i64 x.f.e1) ∧ w'.cell? ⟨V3.heap.size, 4, none⟩ = some (.int .i64 x.f.lim) ∧ w'.cell? ⟨V3.heap.size, 5, none⟩ = some (.int .i64 x.acked) ∧ w'.cell? ⟨V3.heap.size, 6, none⟩ = some (.int .u64 (x.last : Int)) ∧ w'.cell? ⟨V3.heap.size, 7, none⟩ = some (.bool x.flying) ∧ w'.cell? ⟨V3.heap.size, 8, none⟩ = some (.int .u64 (x.flight : Int)) ∧ w'.cell? ⟨g, off + j * 3, none⟩ = some (.int .u64 (s.data : Int)) ∧ w'.cell? ⟨g, off + j * 3 + 1, none⟩ = some (.int .i64 s.cut) ∧ w'.cell? ⟨g, off + j * 3 + 2, none⟩ = some (.string s.mask)) (by kernel_rfl) ?_ (fun hHeld => ?_)
            · exact ⟨xx.cell 0 rfl, xx.cell 1 rfl, xx.cell 2 rfl, xx.cell 3 rfl, xx.cell 4 rfl, xx.cell 5 rfl, xx.cell 6 rfl, xx.cell 7 rfl, xx.cell 8 rfl, (HC.out _ hB).1, (HC.out _ hB).2.1, (HC.out _ hB).2.2⟩
            generalize wr.drew = V4 at *
            refine wpAnyH_take (i := 0) (v := ?_) rfl (by kernel_rfl) (by kernel_rfl) (by kernel_rfl) (fun _ _ _ h => h) (Or.inl ⟨by rfl, ?_⟩) (by assumption) ?_
            rotate_left
            · intro w hSw; (try dsimp only at hSw); go_simp; try with_reducible rfl
            try simp only [Act.put, List.getElem_toArray, List.getElem_cons_zero, List.getElem_cons_succ, List.setIfInBounds_toArray, List.set_cons_zero, List.set_cons_succ]
            refine wpAnyH_take (i := 1) (v := ?_) rfl (by kernel_rfl) (by kernel_rfl) (by kernel_rfl) (fun _ _ _ h => h) (Or.inl ⟨by rfl, ?_⟩) (by assumption) ?_
            rotate_left
            · intro w hSw; (try dsimp only at hSw); go_simp; try with_reducible rfl
            try simp only [Act.put, List.getElem_toArray, List.getElem_cons_zero, List.getElem_cons_succ, List.setIfInBounds_toArray, List.set_cons_zero, List.set_cons_succ]
            refine wpAnyH_take (i := 2) (v := ?_) rfl (by kernel_rfl) (by kernel_rfl) (by kernel_rfl) (fun _ _ _ h => h) (Or.inl ⟨by rfl, ?_⟩) (by assumption) ?_
            rotate_left
            · intro w hSw; (try dsimp only at hSw); go_simp; try with_reducible rfl
            try simp only [Act.put, List.getElem_toArray, List.getElem_cons_zero, List.getElem_cons_succ, List.setIfInBounds_toArray, List.set_cons_zero, List.set_cons_succ]
            refine wpAnyH_take (i := 3) (v := ?_) rfl (by kernel_rfl) (by kernel_rfl) (by kernel_rfl) (fun _ _ _ h => h) (Or.inl ⟨by rfl, ?_⟩) (by assumption) ?_
            rotate_left
            · intro w hSw; (try dsimp only at hSw); go_simp; try with_reducible rfl
            try simp only [Act.put, List.getElem_toArray, List.getElem_cons_zero, List.getElem_cons_succ, List.setIfInBounds_toArray, List.set_cons_zero, List.set_cons_succ]
            refine wpAnyH_take (i := 4) (v := ?_) rfl (by kernel_rfl) (by kernel_rfl) (by kernel_rfl) (fun _ _ _ h => h) (Or.inl ⟨by rfl, ?_⟩) (by assumption) ?_
            rotate_left
            · intro w hSw; (try dsimp only at hSw); go_simp; try with_reducible rfl
            try simp only [Act.put, List.getElem_toArray, List.getElem_cons_zero, List.getElem_cons_succ, List.setIfInBounds_toArray, List.set_cons_zero, List.set_cons_succ]
            refine wpAnyH_ready (rs := [5, 6]) (by kernel_rfl) (by simp) ?_
            refine AllReadyH.cons rfl (fun K hK => ?_) (AllReadyH.cons rfl (fun K hK => ?_) (AllReadyH.nil))
            · have xx0 := xx.cell 0 rfl
              have xxz0 := xx.frozen 0
              have xx1 := xx.cell 1 rfl
              have xxz1 := xx.frozen 1
              have xx2 := xx.cell 2 rfl
              have xxz2 := xx.frozen 2
              have xx3 := xx.cell 3 rfl
              have xxz3 := xx.frozen 3
              have xx4 := xx.cell 4 rfl
              have xxz4 := xx.frozen 4
              have xx5 := xx.cell 5 rfl
              have xxz5 := xx.frozen 5
              have xx6 := xx.cell 6 rfl
              have xxz6 := xx.frozen 6
              have xx7 := xx.cell 7 rfl
              have xxz7 := xx.frozen 7
              have xx8 := xx.cell 8 rfl
              have xxz8 := xx.frozen 8
              go_simp
              refine (TP.out _).mono ?_
              rintro e V5 ⟨rfl, hk⟩
              clear xx0 xxz0 xx1 xxz1 xx2 xxz2 xx3 xxz3 xx4 xxz4 xx5 xxz5 xx6 xxz6 xx7 xxz7 xx8 xxz8
              replace hB := below_seq hB hk
              replace xx := xx.seq hk
              clear hk
              have xx0 := xx.cell 0 rfl
              have xxz0 := xx.frozen 0
              have xx1 := xx.cell 1 rfl
              have xxz1 := xx.frozen 1
              have xx2 := xx.cell 2 rfl
              have xxz2 := xx.frozen 2
              have xx3 := xx.cell 3 rfl
              have xxz3 := xx.frozen 3
              have xx4 := xx.cell 4 rfl
              have xxz4 := xx.frozen 4
              have xx5 := xx.cell 5 rfl
              have xxz5 := xx.frozen 5
              have xx6 := xx.cell 6 rfl
              have xxz6 := xx.frozen 6
              have xx7 := xx.cell 7 rfl
              have xxz7 := xx.frozen 7
              have xx8 := xx.cell 8 rfl
              have xxz8 := xx.frozen 8
              try go_wp2_with fail
              clear xx0 xxz0 xx1 xxz1 xx2 xxz2 xx3 xxz3 xx4 xxz4 xx5 xxz5 xx6 xxz6 xx7 xxz7 xx8 xxz8
              clear hHeld
              refine hK.out _ _ ?_ (fun hHeld => ?_)
              · exact ⟨xx.cell 0 rfl, xx.cell 1 rfl, xx.cell 2 rfl, xx.cell 3 rfl, xx.cell 4 rfl, xx.cell 5 rfl, xx.cell 6 rfl, xx.cell 7 rfl, xx.cell 8 rfl, (HC.out _ hB).1, (HC.out _ hB).2.1, (HC.out _ hB).2.2⟩
              clear hK K
              try simp only [Act.put, List.getElem_toArray, List.getElem_cons_zero, List.getElem_cons_succ, List.setIfInBounds_toArray, List.set_cons_zero, List.set_cons_succ]
              refine wpAnyH_ready (rs := [6]) (by kernel_rfl) (by simp) ?_
              refine AllReadyH.cons rfl (fun K hK => ?_) (AllReadyH.nil)
              have xx0 := xx.cell 0 rfl
              have xxz0 := xx.frozen 0
              have xx1 := xx.cell 1 rfl
              have xxz1 := xx.frozen 1
              have xx2 := xx.cell 2 rfl
              have xxz2 := xx.frozen 2
              have xx3 := xx.cell 3 rfl
              have xxz3 := xx.frozen 3
              have xx4 := xx.cell 4 rfl
              have xxz4 := xx.frozen 4
              have xx5 := xx.cell 5 rfl
              have xxz5 := xx.frozen 5
              have xx6 := xx.cell 6 rfl
              have xxz6 := xx.frozen 6
              have xx7 := xx.cell 7 rfl
              have xxz7 := xx.frozen 7
              have xx8 := xx.cell 8 rfl
              have xxz8 := xx.frozen 8
              go_simp
              try go_wp2_with fail
              clear xx0 xxz0 xx1 xxz1 xx2 xxz2 xx3 xxz3 xx4 xxz4 xx5 xxz5 xx6 xxz6 xx7 xxz7 xx8 xxz8
              have xy := Box.new 43 V5 [.string ⟨#[]⟩, .string ⟨#[]⟩, .int .i64 0, .int .i64 0, .int .i64 0, .int .i64 0, .int .u64 0, .bool false, .int .u64 0]
              have ne_xy_xx : V5.heap.size ≠ V3.heap.size := Nat.ne_of_gt xx.lt
              have le_xy : W.heap.size ≤ V5.heap.size := hB.size
              replace xx := xx.alloc (.cells #[.string ⟨#[]⟩, .string ⟨#[]⟩, .int .i64 0, .int .i64 0, .int .i64 0, .int .i64 0, .int .u64 0, .bool false, .int .u64 0] 43)
              replace hB := hB.alloc hB.size (.cells #[.string ⟨#[]⟩, .string ⟨#[]⟩, .int .i64 0, .int .i64 0, .int .i64 0, .int .i64 0, .int .u64 0, .bool false, .int .u64 0] 43)
              have xx0 := xx.cell 0 rfl
              have xxz0 := xx.frozen 0
              have xx1 := xx.cell 1 rfl
              have xxz1 := xx.frozen 1
              have xx2 := xx.cell 2 rfl
              have xxz2 := xx.frozen 2
              have xx3 := xx.cell 3 rfl
              have xxz3 := xx.frozen 3
              have xx4 := xx.cell 4 rfl
              have xxz4 := xx.frozen 4
              have xx5 := xx.cell 5 rfl
              have xxz5 := xx.frozen 5
              have xx6 := xx.cell 6 rfl
              have xxz6 := xx.frozen 6
              have xx7 := xx.cell 7 rfl
              have xxz7 := xx.frozen 7
              have xx8 := xx.cell 8 rfl
              have xxz8 := xx.frozen 8
              have xy0 := xy.cell 0 rfl
              have xyz0 := xy.frozen 0
              have xy1 := xy.cell 1 rfl
              have xyz1 := xy.frozen 1
              have xy2 := xy.cell 2 rfl
              have xyz2 := xy.frozen 2
              have xy3 := xy.cell 3 rfl
              have xyz3 := xy.frozen 3
              have xy4 := xy.cell 4 rfl
              have xyz4 := xy.frozen 4
              have xy5 := xy.cell 5 rfl
              have xyz5 := xy.frozen 5
              have xy6 := xy.cell 6 rfl
              have xyz6 := xy.frozen 6
              have xy7 := xy.cell 7 rfl
              have xyz7 := xy.frozen 7
              have xy8 := xy.cell 8 rfl
              have xyz8 := xy.frozen 8
              generalize (V5.alloc (.cells #[.string ⟨#[]⟩, .string ⟨#[]⟩, .int .i64 0, .int .i64 0, .int .i64 0, .int .i64 0, .int .u64 0, .bool false, .int .u64 0] 43)) = V6 at *
              generalize V5.heap.size = g_xy at *
              clear xx0 xxz0 xx1 xxz1 xx2 xxz2 xx3 xxz3 xx4 xxz4 xx5 xxz5 xx6 xxz6 xx7 xxz7 xx8 xxz8 xy0 xyz0 xy1 xyz1 xy2 xyz2 xy3 xyz3 xy4 xyz4 xy5 xyz5 xy6 xyz6 xy7 xyz7 xy8 xyz8
              clear hHeld
              refine hK.out _ _ ?_ (fun hHeld => ?_)
              · exact ⟨xx.cell 0 rfl, xx.cell 1 rfl, xx.cell 2 rfl, xx.cell 3 rfl, xx.cell 4 rfl, xx.cell 5 rfl, xx.cell 6 rfl, xx.cell 7 rfl, xx.cell 8 rfl, (HC.out _ hB).1, (HC.out _ hB).2.1, (HC.out _ hB).2.2⟩
              clear hK K
              try simp only [Act.put, List.getElem_toArray, List.getElem_cons_zero, List.getElem_cons_succ, List.setIfInBounds_toArray, List.set_cons_zero, List.set_cons_succ]
              refine wpAnyH_ready (rs := [7]) (by kernel_rfl) (by simp) ?_
              refine AllReadyH.cons rfl (fun K hK => ?_) (AllReadyH.nil)
              have xx0 := xx.cell 0 rfl
              have xxz0 := xx.frozen 0
              have xx1 := xx.cell 1 rfl
              have xxz1 := xx.frozen 1
              have xx2 := xx.cell 2 rfl
              have xxz2 := xx.frozen 2
              have xx3 := xx.cell 3 rfl
              have xxz3 := xx.frozen 3
              have xx4 := xx.cell 4 rfl
              have xxz4 := xx.frozen 4
              have xx5 := xx.cell 5 rfl
              have xxz5 := xx.frozen 5
              have xx6 := xx.cell 6 rfl
              have xxz6 := xx.frozen 6
              have xx7 := xx.cell 7 rfl
              have xxz7 := xx.frozen 7
              have xx8 := xx.cell 8 rfl
              have xxz8 := xx.frozen 8
              have xy0 := xy.cell 0 rfl
              have xyz0 := xy.frozen 0
              have xy1 := xy.cell 1 rfl
              have xyz1 := xy.frozen 1
              have xy2 := xy.cell 2 rfl
              have xyz2 := xy.frozen 2
              have xy3 := xy.cell 3 rfl
              have xyz3 := xy.frozen 3
              have xy4 := xy.cell 4 rfl
              have xyz4 := xy.frozen 4
              have xy5 := xy.cell 5 rfl
              have xyz5 := xy.frozen 5
              have xy6 := xy.cell 6 rfl
              have xyz6 := xy.frozen 6
              have xy7 := xy.cell 7 rfl
              have xyz7 := xy.frozen 7
              have xy8 := xy.cell 8 rfl
              have xyz8 := xy.frozen 8
              go_simp
              try go_wp2_with fail
              clear xx0 xxz0 xx1 xxz1 xx2 xxz2 xx3 xxz3 xx4 xxz4 xx5 xxz5 xx6 xxz6 xx7 xxz7 xx8 xxz8 xy0 xyz0 xy1 xyz1 xy2 xyz2 xy3 xyz3 xy4 xyz4 xy5 xyz5 xy6 xyz6 xy7 xyz7 xy8 xyz8
              replace xx : Box 43 (((((((((V6.setCell ⟨g_xy, 0, none⟩ (.string yf.b0)).setCell ⟨g_xy, 1, none⟩ (.string yf.b1)).setCell ⟨g_xy, 2, none⟩ (.int .i64 yf.e0)).setCell ⟨g_xy, 3, none⟩ (.int .i64 yf.e1)).setCell ⟨g_xy, 4, none⟩ (.int .i64 yf.lim)).setCell ⟨g_xy, 5, none⟩ (.int .i64 ya)).setCell ⟨g_xy, 6, none⟩ (.int .u64 (yl : Int))).setCell ⟨g_xy, 7, none⟩ (.bool yb)).setCell ⟨g_xy, 8, none⟩ (.int .u64 (yt : Int))) (V3.heap.size) [.string x.f.b0, .string x.f.b1, .int .i64 x.f.e0, .int .i64 x.f.e1, .int .i64 x.f.lim, .int .i64 x.acked, .int .u64 (x.last : Int), .bool x.flying, .int .u64 (x.flight : Int)] := (((((((((xx.other ne_xy_xx 0 (.string yf.b0)).other ne_xy_xx 1 (.string yf.b1)).other ne_xy_xx 2 (.int .i64 yf.e0)).other ne_xy_xx 3 (.int .i64 yf.e1)).other ne_xy_xx 4 (.int .i64 yf.lim)).other ne_xy_xx 5 (.int .i64 ya)).other ne_xy_xx 6 (.int .u64 (yl : Int))).other ne_xy_xx 7 (.bool yb)).other ne_xy_xx 8 (.int .u64 (yt : Int)))
              replace xy : Box 43 (((((((((V6.setCell ⟨g_xy, 0, none⟩ (.string yf.b0)).setCell ⟨g_xy, 1, none⟩ (.string yf.b1)).setCell ⟨g_xy, 2, none⟩ (.int .i64 yf.e0)).setCell ⟨g_xy, 3, none⟩ (.int .i64 yf.e1)).setCell ⟨g_xy, 4, none⟩ (.int .i64 yf.lim)).setCell ⟨g_xy, 5, none⟩ (.int .i64 ya)).setCell ⟨g_xy, 6, none⟩ (.int .u64 (yl : Int))).setCell ⟨g_xy, 7, none⟩ (.bool yb)).setCell ⟨g_xy, 8, none⟩ (.int .u64 (yt : Int))) (g_xy) [.string yf.b0, .string yf.b1, .int .i64 yf.e0, .int .i64 yf.e1, .int .i64 yf.lim, .int .i64 ya, .int .u64 (yl : Int), .bool yb, .int .u64 (yt : Int)] := (((((((((xy.set 0 (.string yf.b0)).set 1 (.string yf.b1)).set 2 (.int .i64 yf.e0)).set 3 (.int .i64 yf.e1)).set 4 (.int .i64 yf.lim)).set 5 (.int .i64 ya)).set 6 (.int .u64 (yl : Int))).set 7 (.bool yb)).set 8 (.int .u64 (yt : Int)))
              replace hB : Below W.heap.size W (((((((((V6.setCell ⟨g_xy, 0, none⟩ (.string yf.b0)).setCell ⟨g_xy, 1, none⟩ (.string yf.b1)).setCell ⟨g_xy, 2, none⟩ (.int .i64 yf.e0)).setCell ⟨g_xy, 3, none⟩ (.int .i64 yf.e1)).setCell ⟨g_xy, 4, none⟩ (.int .i64 yf.lim)).setCell ⟨g_xy, 5, none⟩ (.int .i64 ya)).setCell ⟨g_xy, 6, none⟩ (.int .u64 (yl : Int))).setCell ⟨g_xy, 7, none⟩ (.bool yb)).setCell ⟨g_xy, 8, none⟩ (.int .u64 (yt : Int))) := (((((((((hB.setCell le_xy _).setCell le_xy _).setCell le_xy _).setCell le_xy _).setCell le_xy _).setCell le_xy _).setCell le_xy _).setCell le_xy _).setCell le_xy _)
              generalize (((((((((V6.setCell ⟨g_xy, 0, none⟩ (.string yf.b0)).setCell ⟨g_xy, 1, none⟩ (.string yf.b1)).setCell ⟨g_xy, 2, none⟩ (.int .i64 yf.e0)).setCell ⟨g_xy, 3, none⟩ (.int .i64 yf.e1)).setCell ⟨g_xy, 4, none⟩ (.int .i64 yf.lim)).setCell ⟨g_xy, 5, none⟩ (.int .i64 ya)).setCell ⟨g_xy, 6, none⟩ (.int .u64 (yl : Int))).setCell ⟨g_xy, 7, none⟩ (.bool yb)).setCell ⟨g_xy, 8, none⟩ (.int .u64 (yt : Int))) = V7 at *
              clear hHeld
              refine hK.out _ _ ?_ (fun hHeld => ?_)
              · exact ⟨xx.cell 0 rfl, xx.cell 1 rfl, xx.cell 2 rfl, xx.cell 3 rfl, xx.cell 4 rfl, xx.cell 5 rfl, xx.cell 6 rfl, xx.cell 7 rfl, xx.cell 8 rfl, (HC.out _ hB).1, (HC.out _ hB).2.1, (HC.out _ hB).2.2⟩
              clear hK K
              try simp only [Act.put, List.getElem_toArray, List.getElem_cons_zero, List.getElem_cons_succ, List.setIfInBounds_toArray, List.set_cons_zero, List.set_cons_succ]
              refine wpAnyH_done (by kernel_rfl) ?_ _
              clear hHeld
              have xx0 := xx.cell 0 rfl
              have xxz0 := xx.frozen 0
              have xx1 := xx.cell 1 rfl
              have xxz1 := xx.frozen 1
              have xx2 := xx.cell 2 rfl
              have xxz2 := xx.frozen 2
              have xx3 := xx.cell 3 rfl
              have xxz3 := xx.frozen 3
              have xx4 := xx.cell 4 rfl
              have xxz4 := xx.frozen 4
              have xx5 := xx.cell 5 rfl
              have xxz5 := xx.frozen 5
              have xx6 := xx.cell 6 rfl
              have xxz6 := xx.frozen 6
              have xx7 := xx.cell 7 rfl
              have xxz7 := xx.frozen 7
              have xx8 := xx.cell 8 rfl
              have xxz8 := xx.frozen 8
              have xy0 := xy.cell 0 rfl
              have xyz0 := xy.frozen 0
              have xy1 := xy.cell 1 rfl
              have xyz1 := xy.frozen 1
              have xy2 := xy.cell 2 rfl
              have xyz2 := xy.frozen 2
              have xy3 := xy.cell 3 rfl
              have xyz3 := xy.frozen 3
              have xy4 := xy.cell 4 rfl
              have xyz4 := xy.frozen 4
              have xy5 := xy.cell 5 rfl
              have xyz5 := xy.frozen 5
              have xy6 := xy.cell 6 rfl
              have xyz6 := xy.frozen 6
              have xy7 := xy.cell 7 rfl
              have xyz7 := xy.frozen 7
              have xy8 := xy.cell 8 rfl
              have xyz8 := xy.frozen 8
              go_wp2_with fail
              refine (TR.out _).mono ?_
              rintro e V8 ⟨rfl, hk⟩
              clear xx0 xxz0 xx1 xxz1 xx2 xxz2 xx3 xxz3 xx4 xxz4 xx5 xxz5 xx6 xxz6 xx7 xxz7 xx8 xxz8 xy0 xyz0 xy1 xyz1 xy2 xyz2 xy3 xyz3 xy4 xyz4 xy5 xyz5 xy6 xyz6 xy7 xyz7 xy8 xyz8
              replace hB := below_seq hB hk
              replace xx := xx.seq hk
              replace xy := xy.seq hk
              clear hk
              have xs := Box.new 58 V8 [.int .i64 wb, .int .u64 (wg : Int), .int .u64 (wq : Int), .int .u64 (wd : Int)]
              have ne_xs_xx : V8.heap.size ≠ V3.heap.size := Nat.ne_of_gt xx.lt
              have ne_xs_xy : V8.heap.size ≠ g_xy := Nat.ne_of_gt xy.lt
              have le_xs : W.heap.size ≤ V8.heap.size := hB.size
              replace xx := xx.alloc (.cells #[.int .i64 wb, .int .u64 (wg : Int), .int .u64 (wq : Int), .int .u64 (wd : Int)] 58)
              replace xy := xy.alloc (.cells #[.int .i64 wb, .int .u64 (wg : Int), .int .u64 (wq : Int), .int .u64 (wd : Int)] 58)
              replace hB := hB.alloc hB.size (.cells #[.int .i64 wb, .int .u64 (wg : Int), .int .u64 (wq : Int), .int .u64 (wd : Int)] 58)
              have xx0 := xx.cell 0 rfl
              have xxz0 := xx.frozen 0
              have xx1 := xx.cell 1 rfl
              have xxz1 := xx.frozen 1
              have xx2 := xx.cell 2 rfl
              have xxz2 := xx.frozen 2
              have xx3 := xx.cell 3 rfl
              have xxz3 := xx.frozen 3
              have xx4 := xx.cell 4 rfl
              have xxz4 := xx.frozen 4
              have xx5 := xx.cell 5 rfl
              have xxz5 := xx.frozen 5
              have xx6 := xx.cell 6 rfl
              have xxz6 := xx.frozen 6
              have xx7 := xx.cell 7 rfl
              have xxz7 := xx.frozen 7
              have xx8 := xx.cell 8 rfl
              have xxz8 := xx.frozen 8
              have xy0 := xy.cell 0 rfl
              have xyz0 := xy.frozen 0
              have xy1 := xy.cell 1 rfl
              have xyz1 := xy.frozen 1
              have xy2 := xy.cell 2 rfl
              have xyz2 := xy.frozen 2
              have xy3 := xy.cell 3 rfl
              have xyz3 := xy.frozen 3
              have xy4 := xy.cell 4 rfl
              have xyz4 := xy.frozen 4
              have xy5 := xy.cell 5 rfl
              have xyz5 := xy.frozen 5
              have xy6 := xy.cell 6 rfl
              have xyz6 := xy.frozen 6
              have xy7 := xy.cell 7 rfl
              have xyz7 := xy.frozen 7
              have xy8 := xy.cell 8 rfl
              have xyz8 := xy.frozen 8
              have xs0 := xs.cell 0 rfl
              have xsz0 := xs.frozen 0
              have xs1 := xs.cell 1 rfl
              have xsz1 := xs.frozen 1
              have xs2 := xs.cell 2 rfl
              have xsz2 := xs.frozen 2
              have xs3 := xs.cell 3 rfl
              have xsz3 := xs.frozen 3
              go_wp2
              clear xx0 xxz0 xx1 xxz1 xx2 xxz2 xx3 xxz3 xx4 xxz4 xx5 xxz5 xx6 xxz6 xx7 xxz7 xx8 xxz8 xy0 xyz0 xy1 xyz1 xy2 xyz2 xy3 xyz3 xy4 xyz4 xy5 xyz5 xy6 xyz6 xy7 xyz7 xy8 xyz8 xs0 xsz0 xs1 xsz1 xs2 xsz2 xs3 xsz3
              replace xy : Box 43 ((((((((((V8.alloc (.cells #[.int .i64 wb, .int .u64 (wg : Int), .int .u64 (wq : Int), .int .u64 (wd : Int)] 58)).setCell ⟨V3.heap.size, 0, none⟩ (.string yf.b0)).setCell ⟨V3.heap.size, 1, none⟩ (.string yf.b1)).setCell ⟨V3.heap.size, 2, none⟩ (.int .i64 yf.e0)).setCell ⟨V3.heap.size, 3, none⟩ (.int .i64 yf.e1)).setCell ⟨V3.heap.size, 4, none⟩ (.int .i64 yf.lim)).setCell ⟨V3.heap.size, 5, none⟩ (.int .i64 ya)).setCell ⟨V3.heap.size, 6, none⟩ (.int .u64 (yl : Int))).setCell ⟨V3.heap.size, 7, none⟩ (.bool yb)).setCell ⟨V3.heap.size, 8, none⟩ (.int .u64 (yt : Int))) (g_xy) [.string yf.b0, .string yf.b1, .int .i64 yf.e0, .int .i64 yf.e1, .int .i64 yf.lim, .int .i64 ya, .int .u64 (yl : Int), .bool yb, .int .u64 (yt : Int)] := (((((((((xy.other (Ne.symm ne_xy_xx) 0 (.string yf.b0)).other (Ne.symm ne_xy_xx) 1 (.string yf.b1)).other (Ne.symm ne_xy_xx) 2 (.int .i64 yf.e0)).other (Ne.symm ne_xy_xx) 3 (.int .i64 yf.e1)).other (Ne.symm ne_xy_xx) 4 (.int .i64 yf.lim)).other (Ne.symm ne_xy_xx) 5 (.int .i64 ya)).other (Ne.symm ne_xy_xx) 6 (.int .u64 (yl : Int))).other (Ne.symm ne_xy_xx) 7 (.bool yb)).other (Ne.symm ne_xy_xx) 8 (.int .u64 (yt : Int)))
              replace xs : Box 58 ((((((((((V8.alloc (.cells #[.int .i64 wb, .int .u64 (wg : Int), .int .u64 (wq : Int), .int .u64 (wd : Int)] 58)).setCell ⟨V3.heap.size, 0, none⟩ (.string yf.b0)).setCell ⟨V3.heap.size, 1, none⟩ (.string yf.b1)).setCell ⟨V3.heap.size, 2, none⟩ (.int .i64 yf.e0)).setCell ⟨V3.heap.size, 3, none⟩ (.int .i64 yf.e1)).setCell ⟨V3.heap.size, 4, none⟩ (.int .i64 yf.lim)).setCell ⟨V3.heap.size, 5, none⟩ (.int .i64 ya)).setCell ⟨V3.heap.size, 6, none⟩ (.int .u64 (yl : Int))).setCell ⟨V3.heap.size, 7, none⟩ (.bool yb)).setCell ⟨V3.heap.size, 8, none⟩ (.int .u64 (yt : Int))) (V8.heap.size) [.int .i64 wb, .int .u64 (wg : Int), .int .u64 (wq : Int), .int .u64 (wd : Int)] := (((((((((xs.other (Ne.symm ne_xs_xx) 0 (.string yf.b0)).other (Ne.symm ne_xs_xx) 1 (.string yf.b1)).other (Ne.symm ne_xs_xx) 2 (.int .i64 yf.e0)).other (Ne.symm ne_xs_xx) 3 (.int .i64 yf.e1)).other (Ne.symm ne_xs_xx) 4 (.int .i64 yf.lim)).other (Ne.symm ne_xs_xx) 5 (.int .i64 ya)).other (Ne.symm ne_xs_xx) 6 (.int .u64 (yl : Int))).other (Ne.symm ne_xs_xx) 7 (.bool yb)).other (Ne.symm ne_xs_xx) 8 (.int .u64 (yt : Int)))
              replace xx : Box 43 ((((((((((V8.alloc (.cells #[.int .i64 wb, .int .u64 (wg : Int), .int .u64 (wq : Int), .int .u64 (wd : Int)] 58)).setCell ⟨V3.heap.size, 0, none⟩ (.string yf.b0)).setCell ⟨V3.heap.size, 1, none⟩ (.string yf.b1)).setCell ⟨V3.heap.size, 2, none⟩ (.int .i64 yf.e0)).setCell ⟨V3.heap.size, 3, none⟩ (.int .i64 yf.e1)).setCell ⟨V3.heap.size, 4, none⟩ (.int .i64 yf.lim)).setCell ⟨V3.heap.size, 5, none⟩ (.int .i64 ya)).setCell ⟨V3.heap.size, 6, none⟩ (.int .u64 (yl : Int))).setCell ⟨V3.heap.size, 7, none⟩ (.bool yb)).setCell ⟨V3.heap.size, 8, none⟩ (.int .u64 (yt : Int))) (V3.heap.size) [.string yf.b0, .string yf.b1, .int .i64 yf.e0, .int .i64 yf.e1, .int .i64 yf.lim, .int .i64 ya, .int .u64 (yl : Int), .bool yb, .int .u64 (yt : Int)] := (((((((((xx.set 0 (.string yf.b0)).set 1 (.string yf.b1)).set 2 (.int .i64 yf.e0)).set 3 (.int .i64 yf.e1)).set 4 (.int .i64 yf.lim)).set 5 (.int .i64 ya)).set 6 (.int .u64 (yl : Int))).set 7 (.bool yb)).set 8 (.int .u64 (yt : Int)))
              replace hB : Below W.heap.size W ((((((((((V8.alloc (.cells #[.int .i64 wb, .int .u64 (wg : Int), .int .u64 (wq : Int), .int .u64 (wd : Int)] 58)).setCell ⟨V3.heap.size, 0, none⟩ (.string yf.b0)).setCell ⟨V3.heap.size, 1, none⟩ (.string yf.b1)).setCell ⟨V3.heap.size, 2, none⟩ (.int .i64 yf.e0)).setCell ⟨V3.heap.size, 3, none⟩ (.int .i64 yf.e1)).setCell ⟨V3.heap.size, 4, none⟩ (.int .i64 yf.lim)).setCell ⟨V3.heap.size, 5, none⟩ (.int .i64 ya)).setCell ⟨V3.heap.size, 6, none⟩ (.int .u64 (yl : Int))).setCell ⟨V3.heap.size, 7, none⟩ (.bool yb)).setCell ⟨V3.heap.size, 8, none⟩ (.int .u64 (yt : Int))) := (((((((((hB.setCell le_xx _).setCell le_xx _).setCell le_xx _).setCell le_xx _).setCell le_xx _).setCell le_xx _).setCell le_xx _).setCell le_xx _).setCell le_xx _)
              generalize ((((((((((V8.alloc (.cells #[.int .i64 wb, .int .u64 (wg : Int), .int .u64 (wq : Int), .int .u64 (wd : Int)] 58)).setCell ⟨V3.heap.size, 0, none⟩ (.string yf.b0)).setCell ⟨V3.heap.size, 1, none⟩ (.string yf.b1)).setCell ⟨V3.heap.size, 2, none⟩ (.int .i64 yf.e0)).setCell ⟨V3.heap.size, 3, none⟩ (.int .i64 yf.e1)).setCell ⟨V3.heap.size, 4, none⟩ (.int .i64 yf.lim)).setCell ⟨V3.heap.size, 5, none⟩ (.int .i64 ya)).setCell ⟨V3.heap.size, 6, none⟩ (.int .u64 (yl : Int))).setCell ⟨V3.heap.size, 7, none⟩ (.bool yb)).setCell ⟨V3.heap.size, 8, none⟩ (.int .u64 (yt : Int))) = V9 at *
              have xx0 := xx.cell 0 rfl
              have xxz0 := xx.frozen 0
              have xx1 := xx.cell 1 rfl
              have xxz1 := xx.frozen 1
              have xx2 := xx.cell 2 rfl
              have xxz2 := xx.frozen 2
              have xx3 := xx.cell 3 rfl
              have xxz3 := xx.frozen 3
              have xx4 := xx.cell 4 rfl
              have xxz4 := xx.frozen 4
              have xx5 := xx.cell 5 rfl
              have xxz5 := xx.frozen 5
              have xx6 := xx.cell 6 rfl
              have xxz6 := xx.frozen 6
              have xx7 := xx.cell 7 rfl
              have xxz7 := xx.frozen 7
              have xx8 := xx.cell 8 rfl
              have xxz8 := xx.frozen 8
              have xy0 := xy.cell 0 rfl
              have xyz0 := xy.frozen 0
              have xy1 := xy.cell 1 rfl
              have xyz1 := xy.frozen 1
              have xy2 := xy.cell 2 rfl
              have xyz2 := xy.frozen 2
              have xy3 := xy.cell 3 rfl
              have xyz3 := xy.frozen 3
              have xy4 := xy.cell 4 rfl
              have xyz4 := xy.frozen 4
              have xy5 := xy.cell 5 rfl
              have xyz5 := xy.frozen 5
              have xy6 := xy.cell 6 rfl
              have xyz6 := xy.frozen 6
              have xy7 := xy.cell 7 rfl
              have xyz7 := xy.frozen 7
              have xy8 := xy.cell 8 rfl
              have xyz8 := xy.frozen 8
              have xs0 := xs.cell 0 rfl
              have xsz0 := xs.frozen 0
              have xs1 := xs.cell 1 rfl
              have xsz1 := xs.frozen 1
              have xs2 := xs.cell 2 rfl
              have xsz2 := xs.frozen 2
              have xs3 := xs.cell 3 rfl
              have xsz3 := xs.frozen 3
              clear xx0 xxz0 xx1 xxz1 xx2 xxz2 xx3 xxz3 xx4 xxz4 xx5 xxz5 xx6 xxz6 xx7 xxz7 xx8 xxz8 xy0 xyz0 xy1 xyz1 xy2 xyz2 xy3 xyz3 xy4 xyz4 xy5 xyz5 xy6 xyz6 xy7 xyz7 xy8 xyz8 xs0 xsz0 xs1 xsz1 xs2 xsz2 xs3 xsz3
              go_roundw
              case rel => exact ⟨j + 1, (Lg.mk yf ya yl yb yt), by omega, by go_num, by rw [hsq.out], HY.out, hyf, xx, hB⟩
              case measure => simp [intOf]; omega
            · have xx0 := xx.cell 0 rfl
              have xxz0 := xx.frozen 0
              have xx1 := xx.cell 1 rfl
              have xxz1 := xx.frozen 1
              have xx2 := xx.cell 2 rfl
              have xxz2 := xx.frozen 2
              have xx3 := xx.cell 3 rfl
              have xxz3 := xx.frozen 3
              have xx4 := xx.cell 4 rfl
              have xxz4 := xx.frozen 4
              have xx5 := xx.cell 5 rfl
              have xxz5 := xx.frozen 5
              have xx6 := xx.cell 6 rfl
              have xxz6 := xx.frozen 6
              have xx7 := xx.cell 7 rfl
              have xxz7 := xx.frozen 7
              have xx8 := xx.cell 8 rfl
              have xxz8 := xx.frozen 8
              go_simp
              try go_wp2_with fail
              clear xx0 xxz0 xx1 xxz1 xx2 xxz2 xx3 xxz3 xx4 xxz4 xx5 xxz5 xx6 xxz6 xx7 xxz7 xx8 xxz8
              have xy := Box.new 43 V4 [.string ⟨#[]⟩, .string ⟨#[]⟩, .int .i64 0, .int .i64 0, .int .i64 0, .int .i64 0, .int .u64 0, .bool false, .int .u64 0]
              have ne_xy_xx : V4.heap.size ≠ V3.heap.size := Nat.ne_of_gt xx.lt
              have le_xy : W.heap.size ≤ V4.heap.size := hB.size
              replace xx := xx.alloc (.cells #[.string ⟨#[]⟩, .string ⟨#[]⟩, .int .i64 0, .int .i64 0, .int .i64 0, .int .i64 0, .int .u64 0, .bool false, .int .u64 0] 43)
              replace hB := hB.alloc hB.size (.cells #[.string ⟨#[]⟩, .string ⟨#[]⟩, .int .i64 0, .int .i64 0, .int .i64 0, .int .i64 0, .int .u64 0, .bool false, .int .u64 0] 43)
              have xx0 := xx.cell 0 rfl
              have xxz0 := xx.frozen 0
              have xx1 := xx.cell 1 rfl
              have xxz1 := xx.frozen 1
              have xx2 := xx.cell 2 rfl
              have xxz2 := xx.frozen 2
              have xx3 := xx.cell 3 rfl
              have xxz3 := xx.frozen 3
              have xx4 := xx.cell 4 rfl
              have xxz4 := xx.frozen 4
              have xx5 := xx.cell 5 rfl
              have xxz5 := xx.frozen 5
              have xx6 := xx.cell 6 rfl
              have xxz6 := xx.frozen 6
              have xx7 := xx.cell 7 rfl
              have xxz7 := xx.frozen 7
              have xx8 := xx.cell 8 rfl
              have xxz8 := xx.frozen 8
              have xy0 := xy.cell 0 rfl
              have xyz0 := xy.frozen 0
              have xy1 := xy.cell 1 rfl
              have xyz1 := xy.frozen 1
              have xy2 := xy.cell 2 rfl
              have xyz2 := xy.frozen 2
              have xy3 := xy.cell 3 rfl
              have xyz3 := xy.frozen 3
              have xy4 := xy.cell 4 rfl
              have xyz4 := xy.frozen 4
              have xy5 := xy.cell 5 rfl
              have xyz5 := xy.frozen 5
              have xy6 := xy.cell 6 rfl
              have xyz6 := xy.frozen 6
              have xy7 := xy.cell 7 rfl
              have xyz7 := xy.frozen 7
              have xy8 := xy.cell 8 rfl
              have xyz8 := xy.frozen 8
              generalize (V4.alloc (.cells #[.string ⟨#[]⟩, .string ⟨#[]⟩, .int .i64 0, .int .i64 0, .int .i64 0, .int .i64 0, .int .u64 0, .bool false, .int .u64 0] 43)) = V5 at *
              generalize V4.heap.size = g_xy at *
              clear xx0 xxz0 xx1 xxz1 xx2 xxz2 xx3 xxz3 xx4 xxz4 xx5 xxz5 xx6 xxz6 xx7 xxz7 xx8 xxz8 xy0 xyz0 xy1 xyz1 xy2 xyz2 xy3 xyz3 xy4 xyz4 xy5 xyz5 xy6 xyz6 xy7 xyz7 xy8 xyz8
              clear hHeld
              refine hK.out _ _ ?_ (fun hHeld => ?_)
              · exact ⟨xx.cell 0 rfl, xx.cell 1 rfl, xx.cell 2 rfl, xx.cell 3 rfl, xx.cell 4 rfl, xx.cell 5 rfl, xx.cell 6 rfl, xx.cell 7 rfl, xx.cell 8 rfl, (HC.out _ hB).1, (HC.out _ hB).2.1, (HC.out _ hB).2.2⟩
              clear hK K
              try simp only [Act.put, List.getElem_toArray, List.getElem_cons_zero, List.getElem_cons_succ, List.setIfInBounds_toArray, List.set_cons_zero, List.set_cons_succ]
              refine wpAnyH_ready (rs := [5]) (by kernel_rfl) (by simp) ?_
              refine AllReadyH.cons rfl (fun K hK => ?_) (AllReadyH.nil)
              have xx0 := xx.cell 0 rfl
              have xxz0 := xx.frozen 0
              have xx1 := xx.cell 1 rfl
              have xxz1 := xx.frozen 1
              have xx2 := xx.cell 2 rfl
              have xxz2 := xx.frozen 2
              have xx3 := xx.cell 3 rfl
              have xxz3 := xx.frozen 3
              have xx4 := xx.cell 4 rfl
              have xxz4 := xx.frozen 4
              have xx5 := xx.cell 5 rfl
              have xxz5 := xx.frozen 5
              have xx6 := xx.cell 6 rfl
              have xxz6 := xx.frozen 6
              have xx7 := xx.cell 7 rfl
              have xxz7 := xx.frozen 7
              have xx8 := xx.cell 8 rfl
              have xxz8 := xx.frozen 8
              have xy0 := xy.cell 0 rfl
              have xyz0 := xy.frozen 0
              have xy1 := xy.cell 1 rfl
              have xyz1 := xy.frozen 1
              have xy2 := xy.cell 2 rfl
              have xyz2 := xy.frozen 2
              have xy3 := xy.cell 3 rfl
              have xyz3 := xy.frozen 3
              have xy4 := xy.cell 4 rfl
              have xyz4 := xy.frozen 4
              have xy5 := xy.cell 5 rfl
              have xyz5 := xy.frozen 5
              have xy6 := xy.cell 6 rfl
              have xyz6 := xy.frozen 6
              have xy7 := xy.cell 7 rfl
              have xyz7 := xy.frozen 7
              have xy8 := xy.cell 8 rfl
              have xyz8 := xy.frozen 8
              go_simp
              refine (TP.out _).mono ?_
              rintro e V6 ⟨rfl, hk⟩
              clear xx0 xxz0 xx1 xxz1 xx2 xxz2 xx3 xxz3 xx4 xxz4 xx5 xxz5 xx6 xxz6 xx7 xxz7 xx8 xxz8 xy0 xyz0 xy1 xyz1 xy2 xyz2 xy3 xyz3 xy4 xyz4 xy5 xyz5 xy6 xyz6 xy7 xyz7 xy8 xyz8
              replace hB := below_seq hB hk
              replace xx := xx.seq hk
              replace xy := xy.seq hk
              clear hk
              have xx0 := xx.cell 0 rfl
              have xxz0 := xx.frozen 0
              have xx1 := xx.cell 1 rfl
              have xxz1 := xx.frozen 1
              have xx2 := xx.cell 2 rfl
              have xxz2 := xx.frozen 2
              have xx3 := xx.cell 3 rfl
              have xxz3 := xx.frozen 3
              have xx4 := xx.cell 4 rfl
              have xxz4 := xx.frozen 4
              have xx5 := xx.cell 5 rfl
              have xxz5 := xx.frozen 5
              have xx6 := xx.cell 6 rfl
              have xxz6 := xx.frozen 6
              have xx7 := xx.cell 7 rfl
              have xxz7 := xx.frozen 7
              have xx8 := xx.cell 8 rfl
              have xxz8 := xx.frozen 8
              have xy0 := xy.cell 0 rfl
              have xyz0 := xy.frozen 0
              have xy1 := xy.cell 1 rfl
              have xyz1 := xy.frozen 1
              have xy2 := xy.cell 2 rfl
              have xyz2 := xy.frozen 2
              have xy3 := xy.cell 3 rfl
              have xyz3 := xy.frozen 3
              have xy4 := xy.cell 4 rfl
              have xyz4 := xy.frozen 4
              have xy5 := xy.cell 5 rfl
              have xyz5 := xy.frozen 5
              have xy6 := xy.cell 6 rfl
              have xyz6 := xy.frozen 6
              have xy7 := xy.cell 7 rfl
              have xyz7 := xy.frozen 7
              have xy8 := xy.cell 8 rfl
              have xyz8 := xy.frozen 8
              try go_wp2_with fail
              clear xx0 xxz0 xx1 xxz1 xx2 xxz2 xx3 xxz3 xx4 xxz4 xx5 xxz5 xx6 xxz6 xx7 xxz7 xx8 xxz8 xy0 xyz0 xy1 xyz1 xy2 xyz2 xy3 xyz3 xy4 xyz4 xy5 xyz5 xy6 xyz6 xy7 xyz7 xy8 xyz8
              clear hHeld
              refine hK.out _ _ ?_ (fun hHeld => ?_)
              · exact ⟨xx.cell 0 rfl, xx.cell 1 rfl, xx.cell 2 rfl, xx.cell 3 rfl, xx.cell 4 rfl, xx.cell 5 rfl, xx.cell 6 rfl, xx.cell 7 rfl, xx.cell 8 rfl, (HC.out _ hB).1, (HC.out _ hB).2.1, (HC.out _ hB).2.2⟩
              clear hK K
              try simp only [Act.put, List.getElem_toArray, List.getElem_cons_zero, List.getElem_cons_succ, List.setIfInBounds_toArray, List.set_cons_zero, List.set_cons_succ]
              refine wpAnyH_ready (rs := [7]) (by kernel_rfl) (by simp) ?_
              refine AllReadyH.cons rfl (fun K hK => ?_) (AllReadyH.nil)
              have xx0 := xx.cell 0 rfl
              have xxz0 := xx.frozen 0
              have xx1 := xx.cell 1 rfl
              have xxz1 := xx.frozen 1
              have xx2 := xx.cell 2 rfl
              have xxz2 := xx.frozen 2
              have xx3 := xx.cell 3 rfl
              have xxz3 := xx.frozen 3
              have xx4 := xx.cell 4 rfl
              have xxz4 := xx.frozen 4
              have xx5 := xx.cell 5 rfl
              have xxz5 := xx.frozen 5
              have xx6 := xx.cell 6 rfl
              have xxz6 := xx.frozen 6
              have xx7 := xx.cell 7 rfl
              have xxz7 := xx.frozen 7
              have xx8 := xx.cell 8 rfl
              have xxz8 := xx.frozen 8
              have xy0 := xy.cell 0 rfl
              have xyz0 := xy.frozen 0
              have xy1 := xy.cell 1 rfl
              have xyz1 := xy.frozen 1
              have xy2 := xy.cell 2 rfl
              have xyz2 := xy.frozen 2
              have xy3 := xy.cell 3 rfl
              have xyz3 := xy.frozen 3
              have xy4 := xy.cell 4 rfl
              have xyz4 := xy.frozen 4
              have xy5 := xy.cell 5 rfl
              have xyz5 := xy.frozen 5
              have xy6 := xy.cell 6 rfl
              have xyz6 := xy.frozen 6
              have xy7 := xy.cell 7 rfl
              have xyz7 := xy.frozen 7
              have xy8 := xy.cell 8 rfl
              have xyz8 := xy.frozen 8
              go_simp
              try go_wp2_with fail
              clear xx0 xxz0 xx1 xxz1 xx2 xxz2 xx3 xxz3 xx4 xxz4 xx5 xxz5 xx6 xxz6 xx7 xxz7 xx8 xxz8 xy0 xyz0 xy1 xyz1 xy2 xyz2 xy3 xyz3 xy4 xyz4 xy5 xyz5 xy6 xyz6 xy7 xyz7 xy8 xyz8
              replace xx : Box 43 (((((((((V6.setCell ⟨g_xy, 0, none⟩ (.string yf.b0)).setCell ⟨g_xy, 1, none⟩ (.string yf.b1)).setCell ⟨g_xy, 2, none⟩ (.int .i64 yf.e0)).setCell ⟨g_xy, 3, none⟩ (.int .i64 yf.e1)).setCell ⟨g_xy, 4, none⟩ (.int .i64 yf.lim)).setCell ⟨g_xy, 5, none⟩ (.int .i64 ya)).setCell ⟨g_xy, 6, none⟩ (.int .u64 (yl : Int))).setCell ⟨g_xy, 7, none⟩ (.bool yb)).setCell ⟨g_xy, 8, none⟩ (.int .u64 (yt : Int))) (V3.heap.size) [.string x.f.b0, .string x.f.b1, .int .i64 x.f.e0, .int .i64 x.f.e1, .int .i64 x.f.lim, .int .i64 x.acked, .int .u64 (x.last : Int), .bool x.flying, .int .u64 (x.flight : Int)] := (((((((((xx.other ne_xy_xx 0 (.string yf.b0)).other ne_xy_xx 1 (.string yf.b1)).other ne_xy_xx 2 (.int .i64 yf.e0)).other ne_xy_xx 3 (.int .i64 yf.e1)).other ne_xy_xx 4 (.int .i64 yf.lim)).other ne_xy_xx 5 (.int .i64 ya)).other ne_xy_xx 6 (.int .u64 (yl : Int))).other ne_xy_xx 7 (.bool yb)).other ne_xy_xx 8 (.int .u64 (yt : Int)))
              replace xy : Box 43 (((((((((V6.setCell ⟨g_xy, 0, none⟩ (.string yf.b0)).setCell ⟨g_xy, 1, none⟩ (.string yf.b1)).setCell ⟨g_xy, 2, none⟩ (.int .i64 yf.e0)).setCell ⟨g_xy, 3, none⟩ (.int .i64 yf.e1)).setCell ⟨g_xy, 4, none⟩ (.int .i64 yf.lim)).setCell ⟨g_xy, 5, none⟩ (.int .i64 ya)).setCell ⟨g_xy, 6, none⟩ (.int .u64 (yl : Int))).setCell ⟨g_xy, 7, none⟩ (.bool yb)).setCell ⟨g_xy, 8, none⟩ (.int .u64 (yt : Int))) (g_xy) [.string yf.b0, .string yf.b1, .int .i64 yf.e0, .int .i64 yf.e1, .int .i64 yf.lim, .int .i64 ya, .int .u64 (yl : Int), .bool yb, .int .u64 (yt : Int)] := (((((((((xy.set 0 (.string yf.b0)).set 1 (.string yf.b1)).set 2 (.int .i64 yf.e0)).set 3 (.int .i64 yf.e1)).set 4 (.int .i64 yf.lim)).set 5 (.int .i64 ya)).set 6 (.int .u64 (yl : Int))).set 7 (.bool yb)).set 8 (.int .u64 (yt : Int)))
              replace hB : Below W.heap.size W (((((((((V6.setCell ⟨g_xy, 0, none⟩ (.string yf.b0)).setCell ⟨g_xy, 1, none⟩ (.string yf.b1)).setCell ⟨g_xy, 2, none⟩ (.int .i64 yf.e0)).setCell ⟨g_xy, 3, none⟩ (.int .i64 yf.e1)).setCell ⟨g_xy, 4, none⟩ (.int .i64 yf.lim)).setCell ⟨g_xy, 5, none⟩ (.int .i64 ya)).setCell ⟨g_xy, 6, none⟩ (.int .u64 (yl : Int))).setCell ⟨g_xy, 7, none⟩ (.bool yb)).setCell ⟨g_xy, 8, none⟩ (.int .u64 (yt : Int))) := (((((((((hB.setCell le_xy _).setCell le_xy _).setCell le_xy _).setCell le_xy _).setCell le_xy _).setCell le_xy _).setCell le_xy _).setCell le_xy _).setCell le_xy _)
              generalize (((((((((V6.setCell ⟨g_xy, 0, none⟩ (.string yf.b0)).setCell ⟨g_xy, 1, none⟩ (.string yf.b1)).setCell ⟨g_xy, 2, none⟩ (.int .i64 yf.e0)).setCell ⟨g_xy, 3, none⟩ (.int .i64 yf.e1)).setCell ⟨g_xy, 4, none⟩ (.int .i64 yf.lim)).setCell ⟨g_xy, 5, none⟩ (.int .i64 ya)).setCell ⟨g_xy, 6, none⟩ (.int .u64 (yl : Int))).setCell ⟨g_xy, 7, none⟩ (.bool yb)).setCell ⟨g_xy, 8, none⟩ (.int .u64 (yt : Int))) = V7 at *
              clear hHeld
              refine hK.out _ _ ?_ (fun hHeld => ?_)
              · exact ⟨xx.cell 0 rfl, xx.cell 1 rfl, xx.cell 2 rfl, xx.cell 3 rfl, xx.cell 4 rfl, xx.cell 5 rfl, xx.cell 6 rfl, xx.cell 7 rfl, xx.cell 8 rfl, (HC.out _ hB).1, (HC.out _ hB).2.1, (HC.out _ hB).2.2⟩
              clear hK K
              try simp only [Act.put, List.getElem_toArray, List.getElem_cons_zero, List.getElem_cons_succ, List.setIfInBounds_toArray, List.set_cons_zero, List.set_cons_succ]
              refine wpAnyH_done (by kernel_rfl) ?_ _
              clear hHeld
              have xx0 := xx.cell 0 rfl
              have xxz0 := xx.frozen 0
              have xx1 := xx.cell 1 rfl
              have xxz1 := xx.frozen 1
              have xx2 := xx.cell 2 rfl
              have xxz2 := xx.frozen 2
              have xx3 := xx.cell 3 rfl
              have xxz3 := xx.frozen 3
              have xx4 := xx.cell 4 rfl
              have xxz4 := xx.frozen 4
              have xx5 := xx.cell 5 rfl
              have xxz5 := xx.frozen 5
              have xx6 := xx.cell 6 rfl
              have xxz6 := xx.frozen 6
              have xx7 := xx.cell 7 rfl
              have xxz7 := xx.frozen 7
              have xx8 := xx.cell 8 rfl
              have xxz8 := xx.frozen 8
              have xy0 := xy.cell 0 rfl
              have xyz0 := xy.frozen 0
              have xy1 := xy.cell 1 rfl
              have xyz1 := xy.frozen 1
              have xy2 := xy.cell 2 rfl
              have xyz2 := xy.frozen 2
              have xy3 := xy.cell 3 rfl
              have xyz3 := xy.frozen 3
              have xy4 := xy.cell 4 rfl
              have xyz4 := xy.frozen 4
              have xy5 := xy.cell 5 rfl
              have xyz5 := xy.frozen 5
              have xy6 := xy.cell 6 rfl
              have xyz6 := xy.frozen 6
              have xy7 := xy.cell 7 rfl
              have xyz7 := xy.frozen 7
              have xy8 := xy.cell 8 rfl
              have xyz8 := xy.frozen 8
              go_wp2_with fail
              refine (TR.out _).mono ?_
              rintro e V8 ⟨rfl, hk⟩
              clear xx0 xxz0 xx1 xxz1 xx2 xxz2 xx3 xxz3 xx4 xxz4 xx5 xxz5 xx6 xxz6 xx7 xxz7 xx8 xxz8 xy0 xyz0 xy1 xyz1 xy2 xyz2 xy3 xyz3 xy4 xyz4 xy5 xyz5 xy6 xyz6 xy7 xyz7 xy8 xyz8
              replace hB := below_seq hB hk
              replace xx := xx.seq hk
              replace xy := xy.seq hk
              clear hk
              have xs := Box.new 58 V8 [.int .i64 wb, .int .u64 (wg : Int), .int .u64 (wq : Int), .int .u64 (wd : Int)]
              have ne_xs_xx : V8.heap.size ≠ V3.heap.size := Nat.ne_of_gt xx.lt
              have ne_xs_xy : V8.heap.size ≠ g_xy := Nat.ne_of_gt xy.lt
              have le_xs : W.heap.size ≤ V8.heap.size := hB.size
              replace xx := xx.alloc (.cells #[.int .i64 wb, .int .u64 (wg : Int), .int .u64 (wq : Int), .int .u64 (wd : Int)] 58)
              replace xy := xy.alloc (.cells #[.int .i64 wb, .int .u64 (wg : Int), .int .u64 (wq : Int), .int .u64 (wd : Int)] 58)
              replace hB := hB.alloc hB.size (.cells #[.int .i64 wb, .int .u64 (wg : Int), .int .u64 (wq : Int), .int .u64 (wd : Int)] 58)
              have xx0 := xx.cell 0 rfl
              have xxz0 := xx.frozen 0
              have xx1 := xx.cell 1 rfl
              have xxz1 := xx.frozen 1
              have xx2 := xx.cell 2 rfl
              have xxz2 := xx.frozen 2
              have xx3 := xx.cell 3 rfl
              have xxz3 := xx.frozen 3
              have xx4 := xx.cell 4 rfl
              have xxz4 := xx.frozen 4
              have xx5 := xx.cell 5 rfl
              have xxz5 := xx.frozen 5
              have xx6 := xx.cell 6 rfl
              have xxz6 := xx.frozen 6
              have xx7 := xx.cell 7 rfl
              have xxz7 := xx.frozen 7
              have xx8 := xx.cell 8 rfl
              have xxz8 := xx.frozen 8
              have xy0 := xy.cell 0 rfl
              have xyz0 := xy.frozen 0
              have xy1 := xy.cell 1 rfl
              have xyz1 := xy.frozen 1
              have xy2 := xy.cell 2 rfl
              have xyz2 := xy.frozen 2
              have xy3 := xy.cell 3 rfl
              have xyz3 := xy.frozen 3
              have xy4 := xy.cell 4 rfl
              have xyz4 := xy.frozen 4
              have xy5 := xy.cell 5 rfl
              have xyz5 := xy.frozen 5
              have xy6 := xy.cell 6 rfl
              have xyz6 := xy.frozen 6
              have xy7 := xy.cell 7 rfl
              have xyz7 := xy.frozen 7
              have xy8 := xy.cell 8 rfl
              have xyz8 := xy.frozen 8
              have xs0 := xs.cell 0 rfl
              have xsz0 := xs.frozen 0
              have xs1 := xs.cell 1 rfl
              have xsz1 := xs.frozen 1
              have xs2 := xs.cell 2 rfl
              have xsz2 := xs.frozen 2
              have xs3 := xs.cell 3 rfl
              have xsz3 := xs.frozen 3
              go_wp2
              clear xx0 xxz0 xx1 xxz1 xx2 xxz2 xx3 xxz3 xx4 xxz4 xx5 xxz5 xx6 xxz6 xx7 xxz7 xx8 xxz8 xy0 xyz0 xy1 xyz1 xy2 xyz2 xy3 xyz3 xy4 xyz4 xy5 xyz5 xy6 xyz6 xy7 xyz7 xy8 xyz8 xs0 xsz0 xs1 xsz1 xs2 xsz2 xs3 xsz3
              replace xy : Box 43 ((((((((((V8.alloc (.cells #[.int .i64 wb, .int .u64 (wg : Int), .int .u64 (wq : Int), .int .u64 (wd : Int)] 58)).setCell ⟨V3.heap.size, 0, none⟩ (.string yf.b0)).setCell ⟨V3.heap.size, 1, none⟩ (.string yf.b1)).setCell ⟨V3.heap.size, 2, none⟩ (.int .i64 yf.e0)).setCell ⟨V3.heap.size, 3, none⟩ (.int .i64 yf.e1)).setCell ⟨V3.heap.size, 4, none⟩ (.int .i64 yf.lim)).setCell ⟨V3.heap.size, 5, none⟩ (.int .i64 ya)).setCell ⟨V3.heap.size, 6, none⟩ (.int .u64 (yl : Int))).setCell ⟨V3.heap.size, 7, none⟩ (.bool yb)).setCell ⟨V3.heap.size, 8, none⟩ (.int .u64 (yt : Int))) (g_xy) [.string yf.b0, .string yf.b1, .int .i64 yf.e0, .int .i64 yf.e1, .int .i64 yf.lim, .int .i64 ya, .int .u64 (yl : Int), .bool yb, .int .u64 (yt : Int)] := (((((((((xy.other (Ne.symm ne_xy_xx) 0 (.string yf.b0)).other (Ne.symm ne_xy_xx) 1 (.string yf.b1)).other (Ne.symm ne_xy_xx) 2 (.int .i64 yf.e0)).other (Ne.symm ne_xy_xx) 3 (.int .i64 yf.e1)).other (Ne.symm ne_xy_xx) 4 (.int .i64 yf.lim)).other (Ne.symm ne_xy_xx) 5 (.int .i64 ya)).other (Ne.symm ne_xy_xx) 6 (.int .u64 (yl : Int))).other (Ne.symm ne_xy_xx) 7 (.bool yb)).other (Ne.symm ne_xy_xx) 8 (.int .u64 (yt : Int)))
              replace xs : Box 58 ((((((((((V8.alloc (.cells #[.int .i64 wb, .int .u64 (wg : Int), .int .u64 (wq : Int), .int .u64 (wd : Int)] 58)).setCell ⟨V3.heap.size, 0, none⟩ (.string yf.b0)).setCell ⟨V3.heap.size, 1, none⟩ (.string yf.b1)).setCell ⟨V3.heap.size, 2, none⟩ (.int .i64 yf.e0)).setCell ⟨V3.heap.size, 3, none⟩ (.int .i64 yf.e1)).setCell ⟨V3.heap.size, 4, none⟩ (.int .i64 yf.lim)).setCell ⟨V3.heap.size, 5, none⟩ (.int .i64 ya)).setCell ⟨V3.heap.size, 6, none⟩ (.int .u64 (yl : Int))).setCell ⟨V3.heap.size, 7, none⟩ (.bool yb)).setCell ⟨V3.heap.size, 8, none⟩ (.int .u64 (yt : Int))) (V8.heap.size) [.int .i64 wb, .int .u64 (wg : Int), .int .u64 (wq : Int), .int .u64 (wd : Int)] := (((((((((xs.other (Ne.symm ne_xs_xx) 0 (.string yf.b0)).other (Ne.symm ne_xs_xx) 1 (.string yf.b1)).other (Ne.symm ne_xs_xx) 2 (.int .i64 yf.e0)).other (Ne.symm ne_xs_xx) 3 (.int .i64 yf.e1)).other (Ne.symm ne_xs_xx) 4 (.int .i64 yf.lim)).other (Ne.symm ne_xs_xx) 5 (.int .i64 ya)).other (Ne.symm ne_xs_xx) 6 (.int .u64 (yl : Int))).other (Ne.symm ne_xs_xx) 7 (.bool yb)).other (Ne.symm ne_xs_xx) 8 (.int .u64 (yt : Int)))
              replace xx : Box 43 ((((((((((V8.alloc (.cells #[.int .i64 wb, .int .u64 (wg : Int), .int .u64 (wq : Int), .int .u64 (wd : Int)] 58)).setCell ⟨V3.heap.size, 0, none⟩ (.string yf.b0)).setCell ⟨V3.heap.size, 1, none⟩ (.string yf.b1)).setCell ⟨V3.heap.size, 2, none⟩ (.int .i64 yf.e0)).setCell ⟨V3.heap.size, 3, none⟩ (.int .i64 yf.e1)).setCell ⟨V3.heap.size, 4, none⟩ (.int .i64 yf.lim)).setCell ⟨V3.heap.size, 5, none⟩ (.int .i64 ya)).setCell ⟨V3.heap.size, 6, none⟩ (.int .u64 (yl : Int))).setCell ⟨V3.heap.size, 7, none⟩ (.bool yb)).setCell ⟨V3.heap.size, 8, none⟩ (.int .u64 (yt : Int))) (V3.heap.size) [.string yf.b0, .string yf.b1, .int .i64 yf.e0, .int .i64 yf.e1, .int .i64 yf.lim, .int .i64 ya, .int .u64 (yl : Int), .bool yb, .int .u64 (yt : Int)] := (((((((((xx.set 0 (.string yf.b0)).set 1 (.string yf.b1)).set 2 (.int .i64 yf.e0)).set 3 (.int .i64 yf.e1)).set 4 (.int .i64 yf.lim)).set 5 (.int .i64 ya)).set 6 (.int .u64 (yl : Int))).set 7 (.bool yb)).set 8 (.int .u64 (yt : Int)))
              replace hB : Below W.heap.size W ((((((((((V8.alloc (.cells #[.int .i64 wb, .int .u64 (wg : Int), .int .u64 (wq : Int), .int .u64 (wd : Int)] 58)).setCell ⟨V3.heap.size, 0, none⟩ (.string yf.b0)).setCell ⟨V3.heap.size, 1, none⟩ (.string yf.b1)).setCell ⟨V3.heap.size, 2, none⟩ (.int .i64 yf.e0)).setCell ⟨V3.heap.size, 3, none⟩ (.int .i64 yf.e1)).setCell ⟨V3.heap.size, 4, none⟩ (.int .i64 yf.lim)).setCell ⟨V3.heap.size, 5, none⟩ (.int .i64 ya)).setCell ⟨V3.heap.size, 6, none⟩ (.int .u64 (yl : Int))).setCell ⟨V3.heap.size, 7, none⟩ (.bool yb)).setCell ⟨V3.heap.size, 8, none⟩ (.int .u64 (yt : Int))) := (((((((((hB.setCell le_xx _).setCell le_xx _).setCell le_xx _).setCell le_xx _).setCell le_xx _).setCell le_xx _).setCell le_xx _).setCell le_xx _).setCell le_xx _)
              generalize ((((((((((V8.alloc (.cells #[.int .i64 wb, .int .u64 (wg : Int), .int .u64 (wq : Int), .int .u64 (wd : Int)] 58)).setCell ⟨V3.heap.size, 0, none⟩ (.string yf.b0)).setCell ⟨V3.heap.size, 1, none⟩ (.string yf.b1)).setCell ⟨V3.heap.size, 2, none⟩ (.int .i64 yf.e0)).setCell ⟨V3.heap.size, 3, none⟩ (.int .i64 yf.e1)).setCell ⟨V3.heap.size, 4, none⟩ (.int .i64 yf.lim)).setCell ⟨V3.heap.size, 5, none⟩ (.int .i64 ya)).setCell ⟨V3.heap.size, 6, none⟩ (.int .u64 (yl : Int))).setCell ⟨V3.heap.size, 7, none⟩ (.bool yb)).setCell ⟨V3.heap.size, 8, none⟩ (.int .u64 (yt : Int))) = V9 at *
              have xx0 := xx.cell 0 rfl
              have xxz0 := xx.frozen 0
              have xx1 := xx.cell 1 rfl
              have xxz1 := xx.frozen 1
              have xx2 := xx.cell 2 rfl
              have xxz2 := xx.frozen 2
              have xx3 := xx.cell 3 rfl
              have xxz3 := xx.frozen 3
              have xx4 := xx.cell 4 rfl
              have xxz4 := xx.frozen 4
              have xx5 := xx.cell 5 rfl
              have xxz5 := xx.frozen 5
              have xx6 := xx.cell 6 rfl
              have xxz6 := xx.frozen 6
              have xx7 := xx.cell 7 rfl
              have xxz7 := xx.frozen 7
              have xx8 := xx.cell 8 rfl
              have xxz8 := xx.frozen 8
              have xy0 := xy.cell 0 rfl
              have xyz0 := xy.frozen 0
              have xy1 := xy.cell 1 rfl
              have xyz1 := xy.frozen 1
              have xy2 := xy.cell 2 rfl
              have xyz2 := xy.frozen 2
              have xy3 := xy.cell 3 rfl
              have xyz3 := xy.frozen 3
              have xy4 := xy.cell 4 rfl
              have xyz4 := xy.frozen 4
              have xy5 := xy.cell 5 rfl
              have xyz5 := xy.frozen 5
              have xy6 := xy.cell 6 rfl
              have xyz6 := xy.frozen 6
              have xy7 := xy.cell 7 rfl
              have xyz7 := xy.frozen 7
              have xy8 := xy.cell 8 rfl
              have xyz8 := xy.frozen 8
              have xs0 := xs.cell 0 rfl
              have xsz0 := xs.frozen 0
              have xs1 := xs.cell 1 rfl
              have xsz1 := xs.frozen 1
              have xs2 := xs.cell 2 rfl
              have xsz2 := xs.frozen 2
              have xs3 := xs.cell 3 rfl
              have xsz3 := xs.frozen 3
              clear xx0 xxz0 xx1 xxz1 xx2 xxz2 xx3 xxz3 xx4 xxz4 xx5 xxz5 xx6 xxz6 xx7 xxz7 xx8 xxz8 xy0 xyz0 xy1 xyz1 xy2 xyz2 xy3 xyz3 xy4 xyz4 xy5 xyz5 xy6 xyz6 xy7 xyz7 xy8 xyz8 xs0 xsz0 xs1 xsz1 xs2 xsz2 xs3 xsz3
              go_roundw
              case rel => exact ⟨j + 1, (Lg.mk yf ya yl yb yt), by omega, by go_num, by rw [hsq.out], HY.out, hyf, xx, hB⟩
              case measure => simp [intOf]; omega
          · have m2 : ¬ ya > x.acked := hA
            replace hsq := Lib.hid hsq
            clear hA n1 n2 n3 n4 hE
            go_wp2_with fail
            replace hB := hB.drew
            replace xx := xx.drew
            refine wp_region_held_drew (S := fun w' => w'.cell? ⟨V3.heap.size, 0, none⟩ = some (.string x.f.b0) ∧ w'.cell? ⟨V3.heap.size, 1, none⟩ = some (.string x.f.b1) ∧ w'.cell? ⟨V3.heap.size, 2, none⟩ = some (.int .i64 x.f.e0) ∧ w'.cell? ⟨V3.heap.size, 3, none⟩ = some (.int .i64 x.f.e1) ∧ w'.cell? ⟨V3.heap.size, 4, none⟩ = some (.int .i64 x.f.lim) ∧ w'.cell? ⟨V3.heap.size, 5, none⟩ = some (.int .i64 x.acked) ∧ w'.cell? ⟨V3.heap.size, 6, none⟩ = some (.int .u64 (x.last : Int)) ∧ w'.cell? ⟨V3.heap.size, 7, none⟩ = some (.bool x.flying) ∧ w'.cell? ⟨V3.heap.size, 8, none⟩ = some (.int .u64 (x.flight : Int)) ∧ w'.cell? ⟨g, off + j * 3, none⟩ = some (.int .u64 (s.data : Int)) ∧ w'.cell? ⟨g, off + j * 3 + 1, none⟩ = some (.int .i64 s.cut) ∧ w'.cell? ⟨g, off + j * 3 + 2, none⟩ = some (.string s.mask)) (by kernel_rfl) ?_ (fun hHeld => ?_)
            · exact ⟨xx.cell 0 rfl, xx.cell 1 rfl, xx.cell 2 rfl, xx.cell 3 rfl, xx.cell 4 rfl, xx.cell 5 rfl, xx.cell 6 rfl, xx.cell 7 rfl, xx.cell 8 rfl, (HC.out _ hB).1, (HC.out _ hB).2.1, (HC.out _ hB).2.2⟩
            generalize wr.drew = V4 at *
            refine wpAnyH_take (i := 0) (v := ?_) rfl (by kernel_rfl) (by kernel_rfl) (by kernel_rfl) (fun _ _ _ h => h) (Or.inl ⟨by rfl, ?_⟩) (by assumption) ?_
            rotate_left
            · intro w hSw; (try dsimp only at hSw); go_simp; try with_reducible rfl
            try simp only [Act.put, List.getElem_toArray, List.getElem_cons_zero, List.getElem_cons_succ, List.setIfInBounds_toArray, List.set_cons_zero, List.set_cons_succ]
            refine wpAnyH_take (i := 1) (v := ?_) rfl (by kernel_rfl) (by kernel_rfl) (by kernel_rfl) (fun _ _ _ h => h) (Or.inl ⟨by rfl, ?_⟩) (by assumption) ?_
            rotate_left
            · intro w hSw; (try dsimp only at hSw); go_simp; try with_reducible rfl
            try simp only [Act.put, List.getElem_toArray, List.getElem_cons_zero, List.getElem_cons_succ, List.setIfInBounds_toArray, List.set_cons_zero, List.set_cons_succ]
            refine wpAnyH_take (i := 2) (v := ?_) rfl (by kernel_rfl) (by kernel_rfl) (by kernel_rfl) (fun _ _ _ h => h) (Or.inl ⟨by rfl, ?_⟩) (by assumption) ?_
            rotate_left
            · intro w hSw; (try dsimp only at hSw); go_simp; try with_reducible rfl
            try simp only [Act.put, List.getElem_toArray, List.getElem_cons_zero, List.getElem_cons_succ, List.setIfInBounds_toArray, List.set_cons_zero, List.set_cons_succ]
            refine wpAnyH_take (i := 3) (v := ?_) rfl (by kernel_rfl) (by kernel_rfl) (by kernel_rfl) (fun _ _ _ h => h) (Or.inl ⟨by rfl, ?_⟩) (by assumption) ?_
            rotate_left
            · intro w hSw; (try dsimp only at hSw); go_simp; try with_reducible rfl
            try simp only [Act.put, List.getElem_toArray, List.getElem_cons_zero, List.getElem_cons_succ, List.setIfInBounds_toArray, List.set_cons_zero, List.set_cons_succ]
            refine wpAnyH_take (i := 4) (v := ?_) rfl (by kernel_rfl) (by kernel_rfl) (by kernel_rfl) (fun _ _ _ h => h) (Or.inl ⟨by rfl, ?_⟩) (by assumption) ?_
            rotate_left
            · intro w hSw; (try dsimp only at hSw); go_simp; try with_reducible rfl
            try simp only [Act.put, List.getElem_toArray, List.getElem_cons_zero, List.getElem_cons_succ, List.setIfInBounds_toArray, List.set_cons_zero, List.set_cons_succ]
            refine wpAnyH_ready (rs := [5, 6]) (by kernel_rfl) (by simp) ?_
            refine AllReadyH.cons rfl (fun K hK => ?_) (AllReadyH.cons rfl (fun K hK => ?_) (AllReadyH.nil))
            · have xx0 := xx.cell 0 rfl
              have xxz0 := xx.frozen 0
              have xx1 := xx.cell 1 rfl
              have xxz1 := xx.frozen 1
              have xx2 := xx.cell 2 rfl
              have xxz2 := xx.frozen 2
              have xx3 := xx.cell 3 rfl
              have xxz3 := xx.frozen 3
              have xx4 := xx.cell 4 rfl
              have xxz4 := xx.frozen 4
              have xx5 := xx.cell 5 rfl
              have xxz5 := xx.frozen 5
              have xx6 := xx.cell 6 rfl
              have xxz6 := xx.frozen 6
              have xx7 := xx.cell 7 rfl
              have xxz7 := xx.frozen 7
              have xx8 := xx.cell 8 rfl
              have xxz8 := xx.frozen 8
              go_simp
              refine (TP.out _).mono ?_
              rintro e V5 ⟨rfl, hk⟩
              clear xx0 xxz0 xx1 xxz1 xx2 xxz2 xx3 xxz3 xx4 xxz4 xx5 xxz5 xx6 xxz6 xx7 xxz7 xx8 xxz8
              replace hB := below_seq hB hk
              replace xx := xx.seq hk
              clear hk
              have xx0 := xx.cell 0 rfl
              have xxz0 := xx.frozen 0
              have xx1 := xx.cell 1 rfl
              have xxz1 := xx.frozen 1
              have xx2 := xx.cell 2 rfl
              have xxz2 := xx.frozen 2
              have xx3 := xx.cell 3 rfl
              have xxz3 := xx.frozen 3
              have xx4 := xx.cell 4 rfl
              have xxz4 := xx.frozen 4
              have xx5 := xx.cell 5 rfl
              have xxz5 := xx.frozen 5
              have xx6 := xx.cell 6 rfl
              have xxz6 := xx.frozen 6
              have xx7 := xx.cell 7 rfl
              have xxz7 := xx.frozen 7
              have xx8 := xx.cell 8 rfl
              have xxz8 := xx.frozen 8
              try go_wp2_with fail
              clear xx0 xxz0 xx1 xxz1 xx2 xxz2 xx3 xxz3 xx4 xxz4 xx5 xxz5 xx6 xxz6 xx7 xxz7 xx8 xxz8
              clear hHeld
              refine hK.out _ _ ?_ (fun hHeld => ?_)
              · exact ⟨xx.cell 0 rfl, xx.cell 1 rfl, xx.cell 2 rfl, xx.cell 3 rfl, xx.cell 4 rfl, xx.cell 5 rfl, xx.cell 6 rfl, xx.cell 7 rfl, xx.cell 8 rfl, (HC.out _ hB).1, (HC.out _ hB).2.1, (HC.out _ hB).2.2⟩
              clear hK K
              try simp only [Act.put, List.getElem_toArray, List.getElem_cons_zero, List.getElem_cons_succ, List.setIfInBounds_toArray, List.set_cons_zero, List.set_cons_succ]
              refine wpAnyH_ready (rs := [6]) (by kernel_rfl) (by simp) ?_
              refine AllReadyH.cons rfl (fun K hK => ?_) (AllReadyH.nil)
              have xx0 := xx.cell 0 rfl
              have xxz0 := xx.frozen 0
              have xx1 := xx.cell 1 rfl
              have xxz1 := xx.frozen 1
              have xx2 := xx.cell 2 rfl
              have xxz2 := xx.frozen 2
              have xx3 := xx.cell 3 rfl
              have xxz3 := xx.frozen 3
              have xx4 := xx.cell 4 rfl
              have xxz4 := xx.frozen 4
              have xx5 := xx.cell 5 rfl
              have xxz5 := xx.frozen 5
              have xx6 := xx.cell 6 rfl
              have xxz6 := xx.frozen 6
              have xx7 := xx.cell 7 rfl
              have xxz7 := xx.frozen 7
              have xx8 := xx.cell 8 rfl
              have xxz8 := xx.frozen 8
              go_simp
              try go_wp2_with fail
              clear xx0 xxz0 xx1 xxz1 xx2 xxz2 xx3 xxz3 xx4 xxz4 xx5 xxz5 xx6 xxz6 xx7 xxz7 xx8 xxz8
              have xy := Box.new 43 V5 [.string ⟨#[]⟩, .string ⟨#[]⟩, .int .i64 0, .int .i64 0, .int .i64 0, .int .i64 0, .int .u64 0, .bool false, .int .u64 0]
              have ne_xy_xx : V5.heap.size ≠ V3.heap.size := Nat.ne_of_gt xx.lt
              have le_xy : W.heap.size ≤ V5.heap.size := hB.size
              replace xx := xx.alloc (.cells #[.string ⟨#[]⟩, .string ⟨#[]⟩, .int .i64 0, .int .i64 0, .int .i64 0, .int .i64 0, .int .u64 0, .bool false, .int .u64 0] 43)
              replace hB := hB.alloc hB.size (.cells #[.string ⟨#[]⟩, .string ⟨#[]⟩, .int .i64 0, .int .i64 0, .int .i64 0, .int .i64 0, .int .u64 0, .bool false, .int .u64 0] 43)
              have xx0 := xx.cell 0 rfl
              have xxz0 := xx.frozen 0
              have xx1 := xx.cell 1 rfl
              have xxz1 := xx.frozen 1
              have xx2 := xx.cell 2 rfl
              have xxz2 := xx.frozen 2
              have xx3 := xx.cell 3 rfl
              have xxz3 := xx.frozen 3
              have xx4 := xx.cell 4 rfl
              have xxz4 := xx.frozen 4
              have xx5 := xx.cell 5 rfl
              have xxz5 := xx.frozen 5
              have xx6 := xx.cell 6 rfl
              have xxz6 := xx.frozen 6
              have xx7 := xx.cell 7 rfl
              have xxz7 := xx.frozen 7
              have xx8 := xx.cell 8 rfl
              have xxz8 := xx.frozen 8
              have xy0 := xy.cell 0 rfl
              have xyz0 := xy.frozen 0
              have xy1 := xy.cell 1 rfl
              have xyz1 := xy.frozen 1
              have xy2 := xy.cell 2 rfl
              have xyz2 := xy.frozen 2
              have xy3 := xy.cell 3 rfl
              have xyz3 := xy.frozen 3
              have xy4 := xy.cell 4 rfl
              have xyz4 := xy.frozen 4
              have xy5 := xy.cell 5 rfl
              have xyz5 := xy.frozen 5
              have xy6 := xy.cell 6 rfl
              have xyz6 := xy.frozen 6
              have xy7 := xy.cell 7 rfl
              have xyz7 := xy.frozen 7
              have xy8 := xy.cell 8 rfl
              have xyz8 := xy.frozen 8
              generalize (V5.alloc (.cells #[.string ⟨#[]⟩, .string ⟨#[]⟩, .int .i64 0, .int .i64 0, .int .i64 0, .int .i64 0, .int .u64 0, .bool false, .int .u64 0] 43)) = V6 at *
              generalize V5.heap.size = g_xy at *
              clear xx0 xxz0 xx1 xxz1 xx2 xxz2 xx3 xxz3 xx4 xxz4 xx5 xxz5 xx6 xxz6 xx7 xxz7 xx8 xxz8 xy0 xyz0 xy1 xyz1 xy2 xyz2 xy3 xyz3 xy4 xyz4 xy5 xyz5 xy6 xyz6 xy7 xyz7 xy8 xyz8
              clear hHeld
              refine hK.out _ _ ?_ (fun hHeld => ?_)
              · exact ⟨xx.cell 0 rfl, xx.cell 1 rfl, xx.cell 2 rfl, xx.cell 3 rfl, xx.cell 4 rfl, xx.cell 5 rfl, xx.cell 6 rfl, xx.cell 7 rfl, xx.cell 8 rfl, (HC.out _ hB).1, (HC.out _ hB).2.1, (HC.out _ hB).2.2⟩
              clear hK K
              try simp only [Act.put, List.getElem_toArray, List.getElem_cons_zero, List.getElem_cons_succ, List.setIfInBounds_toArray, List.set_cons_zero, List.set_cons_succ]
              refine wpAnyH_ready (rs := [7]) (by kernel_rfl) (by simp) ?_
              refine AllReadyH.cons rfl (fun K hK => ?_) (AllReadyH.nil)
              have xx0 := xx.cell 0 rfl
              have xxz0 := xx.frozen 0
              have xx1 := xx.cell 1 rfl
              have xxz1 := xx.frozen 1
              have xx2 := xx.cell 2 rfl
              have xxz2 := xx.frozen 2
              have xx3 := xx.cell 3 rfl
              have xxz3 := xx.frozen 3
              have xx4 := xx.cell 4 rfl
              have xxz4 := xx.frozen 4
              have xx5 := xx.cell 5 rfl
              have xxz5 := xx.frozen 5
              have xx6 := xx.cell 6 rfl
              have xxz6 := xx.frozen 6
              have xx7 := xx.cell 7 rfl
              have xxz7 := xx.frozen 7
              have xx8 := xx.cell 8 rfl
              have xxz8 := xx.frozen 8
              have xy0 := xy.cell 0 rfl
              have xyz0 := xy.frozen 0
              have xy1 := xy.cell 1 rfl
              have xyz1 := xy.frozen 1
              have xy2 := xy.cell 2 rfl
              have xyz2 := xy.frozen 2
              have xy3 := xy.cell 3 rfl
              have xyz3 := xy.frozen 3
              have xy4 := xy.cell 4 rfl
              have xyz4 := xy.frozen 4
              have xy5 := xy.cell 5 rfl
              have xyz5 := xy.frozen 5
              have xy6 := xy.cell 6 rfl
              have xyz6 := xy.frozen 6
              have xy7 := xy.cell 7 rfl
              have xyz7 := xy.frozen 7
              have xy8 := xy.cell 8 rfl
              have xyz8 := xy.frozen 8
              go_simp
              try go_wp2_with fail
              clear xx0 xxz0 xx1 xxz1 xx2 xxz2 xx3 xxz3 xx4 xxz4 xx5 xxz5 xx6 xxz6 xx7 xxz7 xx8 xxz8 xy0 xyz0 xy1 xyz1 xy2 xyz2 xy3 xyz3 xy4 xyz4 xy5 xyz5 xy6 xyz6 xy7 xyz7 xy8 xyz8
              replace xx : Box 43 (((((((((V6.setCell ⟨g_xy, 0, none⟩ (.string yf.b0)).setCell ⟨g_xy, 1, none⟩ (.string yf.b1)).setCell ⟨g_xy, 2, none⟩ (.int .i64 yf.e0)).setCell ⟨g_xy, 3, none⟩ (.int .i64 yf.e1)).setCell ⟨g_xy, 4, none⟩ (.int .i64 yf.lim)).setCell ⟨g_xy, 5, none⟩ (.int .i64 ya)).setCell ⟨g_xy, 6, none⟩ (.int .u64 (yl : Int))).setCell ⟨g_xy, 7, none⟩ (.bool yb)).setCell ⟨g_xy, 8, none⟩ (.int .u64 (yt : Int))) (V3.heap.size) [.string x.f.b0, .string x.f.b1, .int .i64 x.f.e0, .int .i64 x.f.e1, .int .i64 x.f.lim, .int .i64 x.acked, .int .u64 (x.last : Int), .bool x.flying, .int .u64 (x.flight : Int)] := (((((((((xx.other ne_xy_xx 0 (.string yf.b0)).other ne_xy_xx 1 (.string yf.b1)).other ne_xy_xx 2 (.int .i64 yf.e0)).other ne_xy_xx 3 (.int .i64 yf.e1)).other ne_xy_xx 4 (.int .i64 yf.lim)).other ne_xy_xx 5 (.int .i64 ya)).other ne_xy_xx 6 (.int .u64 (yl : Int))).other ne_xy_xx 7 (.bool yb)).other ne_xy_xx 8 (.int .u64 (yt : Int)))
              replace xy : Box 43 (((((((((V6.setCell ⟨g_xy, 0, none⟩ (.string yf.b0)).setCell ⟨g_xy, 1, none⟩ (.string yf.b1)).setCell ⟨g_xy, 2, none⟩ (.int .i64 yf.e0)).setCell ⟨g_xy, 3, none⟩ (.int .i64 yf.e1)).setCell ⟨g_xy, 4, none⟩ (.int .i64 yf.lim)).setCell ⟨g_xy, 5, none⟩ (.int .i64 ya)).setCell ⟨g_xy, 6, none⟩ (.int .u64 (yl : Int))).setCell ⟨g_xy, 7, none⟩ (.bool yb)).setCell ⟨g_xy, 8, none⟩ (.int .u64 (yt : Int))) (g_xy) [.string yf.b0, .string yf.b1, .int .i64 yf.e0, .int .i64 yf.e1, .int .i64 yf.lim, .int .i64 ya, .int .u64 (yl : Int), .bool yb, .int .u64 (yt : Int)] := (((((((((xy.set 0 (.string yf.b0)).set 1 (.string yf.b1)).set 2 (.int .i64 yf.e0)).set 3 (.int .i64 yf.e1)).set 4 (.int .i64 yf.lim)).set 5 (.int .i64 ya)).set 6 (.int .u64 (yl : Int))).set 7 (.bool yb)).set 8 (.int .u64 (yt : Int)))
              replace hB : Below W.heap.size W (((((((((V6.setCell ⟨g_xy, 0, none⟩ (.string yf.b0)).setCell ⟨g_xy, 1, none⟩ (.string yf.b1)).setCell ⟨g_xy, 2, none⟩ (.int .i64 yf.e0)).setCell ⟨g_xy, 3, none⟩ (.int .i64 yf.e1)).setCell ⟨g_xy, 4, none⟩ (.int .i64 yf.lim)).setCell ⟨g_xy, 5, none⟩ (.int .i64 ya)).setCell ⟨g_xy, 6, none⟩ (.int .u64 (yl : Int))).setCell ⟨g_xy, 7, none⟩ (.bool yb)).setCell ⟨g_xy, 8, none⟩ (.int .u64 (yt : Int))) := (((((((((hB.setCell le_xy _).setCell le_xy _).setCell le_xy _).setCell le_xy _).setCell le_xy _).setCell le_xy _).setCell le_xy _).setCell le_xy _).setCell le_xy _)
              generalize (((((((((V6.setCell ⟨g_xy, 0, none⟩ (.string yf.b0)).setCell ⟨g_xy, 1, none⟩ (.string yf.b1)).setCell ⟨g_xy, 2, none⟩ (.int .i64 yf.e0)).setCell ⟨g_xy, 3, none⟩ (.int .i64 yf.e1)).setCell ⟨g_xy, 4, none⟩ (.int .i64 yf.lim)).setCell ⟨g_xy, 5, none⟩ (.int .i64 ya)).setCell ⟨g_xy, 6, none⟩ (.int .u64 (yl : Int))).setCell ⟨g_xy, 7, none⟩ (.bool yb)).setCell ⟨g_xy, 8, none⟩ (.int .u64 (yt : Int))) = V7 at *
              clear hHeld
              refine hK.out _ _ ?_ (fun hHeld => ?_)
              · exact ⟨xx.cell 0 rfl, xx.cell 1 rfl, xx.cell 2 rfl, xx.cell 3 rfl, xx.cell 4 rfl, xx.cell 5 rfl, xx.cell 6 rfl, xx.cell 7 rfl, xx.cell 8 rfl, (HC.out _ hB).1, (HC.out _ hB).2.1, (HC.out _ hB).2.2⟩
              clear hK K
              try simp only [Act.put, List.getElem_toArray, List.getElem_cons_zero, List.getElem_cons_succ, List.setIfInBounds_toArray, List.set_cons_zero, List.set_cons_succ]
              refine wpAnyH_done (by kernel_rfl) ?_ _
              clear hHeld
              have xx0 := xx.cell 0 rfl
              have xxz0 := xx.frozen 0
              have xx1 := xx.cell 1 rfl
              have xxz1 := xx.frozen 1
              have xx2 := xx.cell 2 rfl
              have xxz2 := xx.frozen 2
              have xx3 := xx.cell 3 rfl
              have xxz3 := xx.frozen 3
              have xx4 := xx.cell 4 rfl
              have xxz4 := xx.frozen 4
              have xx5 := xx.cell 5 rfl
              have xxz5 := xx.frozen 5
              have xx6 := xx.cell 6 rfl
              have xxz6 := xx.frozen 6
              have xx7 := xx.cell 7 rfl
              have xxz7 := xx.frozen 7
              have xx8 := xx.cell 8 rfl
              have xxz8 := xx.frozen 8
              have xy0 := xy.cell 0 rfl
              have xyz0 := xy.frozen 0
              have xy1 := xy.cell 1 rfl
              have xyz1 := xy.frozen 1
              have xy2 := xy.cell 2 rfl
              have xyz2 := xy.frozen 2
              have xy3 := xy.cell 3 rfl
              have xyz3 := xy.frozen 3
              have xy4 := xy.cell 4 rfl
              have xyz4 := xy.frozen 4
              have xy5 := xy.cell 5 rfl
              have xyz5 := xy.frozen 5
              have xy6 := xy.cell 6 rfl
              have xyz6 := xy.frozen 6
              have xy7 := xy.cell 7 rfl
              have xyz7 := xy.frozen 7
              have xy8 := xy.cell 8 rfl
              have xyz8 := xy.frozen 8
              go_wp2_with fail
              refine (TR.out _).mono ?_
              rintro e V8 ⟨rfl, hk⟩
              clear xx0 xxz0 xx1 xxz1 xx2 xxz2 xx3 xxz3 xx4 xxz4 xx5 xxz5 xx6 xxz6 xx7 xxz7 xx8 xxz8 xy0 xyz0 xy1 xyz1 xy2 xyz2 xy3 xyz3 xy4 xyz4 xy5 xyz5 xy6 xyz6 xy7 xyz7 xy8 xyz8
              replace hB := below_seq hB hk
              replace xx := xx.seq hk
              replace xy := xy.seq hk
              clear hk
              have xs := Box.new 58 V8 [.int .i64 wb, .int .u64 (wg : Int), .int .u64 (wq : Int), .int .u64 (wd : Int)]
              have ne_xs_xx : V8.heap.size ≠ V3.heap.size := Nat.ne_of_gt xx.lt
              have ne_xs_xy : V8.heap.size ≠ g_xy := Nat.ne_of_gt xy.lt
              have le_xs : W.heap.size ≤ V8.heap.size := hB.size
              replace xx := xx.alloc (.cells #[.int .i64 wb, .int .u64 (wg : Int), .int .u64 (wq : Int), .int .u64 (wd : Int)] 58)
              replace xy := xy.alloc (.cells #[.int .i64 wb, .int .u64 (wg : Int), .int .u64 (wq : Int), .int .u64 (wd : Int)] 58)
              replace hB := hB.alloc hB.size (.cells #[.int .i64 wb, .int .u64 (wg : Int), .int .u64 (wq : Int), .int .u64 (wd : Int)] 58)
              have xx0 := xx.cell 0 rfl
              have xxz0 := xx.frozen 0
              have xx1 := xx.cell 1 rfl
              have xxz1 := xx.frozen 1
              have xx2 := xx.cell 2 rfl
              have xxz2 := xx.frozen 2
              have xx3 := xx.cell 3 rfl
              have xxz3 := xx.frozen 3
              have xx4 := xx.cell 4 rfl
              have xxz4 := xx.frozen 4
              have xx5 := xx.cell 5 rfl
              have xxz5 := xx.frozen 5
              have xx6 := xx.cell 6 rfl
              have xxz6 := xx.frozen 6
              have xx7 := xx.cell 7 rfl
              have xxz7 := xx.frozen 7
              have xx8 := xx.cell 8 rfl
              have xxz8 := xx.frozen 8
              have xy0 := xy.cell 0 rfl
              have xyz0 := xy.frozen 0
              have xy1 := xy.cell 1 rfl
              have xyz1 := xy.frozen 1
              have xy2 := xy.cell 2 rfl
              have xyz2 := xy.frozen 2
              have xy3 := xy.cell 3 rfl
              have xyz3 := xy.frozen 3
              have xy4 := xy.cell 4 rfl
              have xyz4 := xy.frozen 4
              have xy5 := xy.cell 5 rfl
              have xyz5 := xy.frozen 5
              have xy6 := xy.cell 6 rfl
              have xyz6 := xy.frozen 6
              have xy7 := xy.cell 7 rfl
              have xyz7 := xy.frozen 7
              have xy8 := xy.cell 8 rfl
              have xyz8 := xy.frozen 8
              have xs0 := xs.cell 0 rfl
              have xsz0 := xs.frozen 0
              have xs1 := xs.cell 1 rfl
              have xsz1 := xs.frozen 1
              have xs2 := xs.cell 2 rfl
              have xsz2 := xs.frozen 2
              have xs3 := xs.cell 3 rfl
              have xsz3 := xs.frozen 3
              go_wp2
              clear xx0 xxz0 xx1 xxz1 xx2 xxz2 xx3 xxz3 xx4 xxz4 xx5 xxz5 xx6 xxz6 xx7 xxz7 xx8 xxz8 xy0 xyz0 xy1 xyz1 xy2 xyz2 xy3 xyz3 xy4 xyz4 xy5 xyz5 xy6 xyz6 xy7 xyz7 xy8 xyz8 xs0 xsz0 xs1 xsz1 xs2 xsz2 xs3 xsz3
              replace xy : Box 43 ((((((((((V8.alloc (.cells #[.int .i64 wb, .int .u64 (wg : Int), .int .u64 (wq : Int), .int .u64 (wd : Int)] 58)).setCell ⟨V3.heap.size, 0, none⟩ (.string yf.b0)).setCell ⟨V3.heap.size, 1, none⟩ (.string yf.b1)).setCell ⟨V3.heap.size, 2, none⟩ (.int .i64 yf.e0)).setCell ⟨V3.heap.size, 3, none⟩ (.int .i64 yf.e1)).setCell ⟨V3.heap.size, 4, none⟩ (.int .i64 yf.lim)).setCell ⟨V3.heap.size, 5, none⟩ (.int .i64 ya)).setCell ⟨V3.heap.size, 6, none⟩ (.int .u64 (yl : Int))).setCell ⟨V3.heap.size, 7, none⟩ (.bool yb)).setCell ⟨V3.heap.size, 8, none⟩ (.int .u64 (yt : Int))) (g_xy) [.string yf.b0, .string yf.b1, .int .i64 yf.e0, .int .i64 yf.e1, .int .i64 yf.lim, .int .i64 ya, .int .u64 (yl : Int), .bool yb, .int .u64 (yt : Int)] := (((((((((xy.other (Ne.symm ne_xy_xx) 0 (.string yf.b0)).other (Ne.symm ne_xy_xx) 1 (.string yf.b1)).other (Ne.symm ne_xy_xx) 2 (.int .i64 yf.e0)).other (Ne.symm ne_xy_xx) 3 (.int .i64 yf.e1)).other (Ne.symm ne_xy_xx) 4 (.int .i64 yf.lim)).other (Ne.symm ne_xy_xx) 5 (.int .i64 ya)).other (Ne.symm ne_xy_xx) 6 (.int .u64 (yl : Int))).other (Ne.symm ne_xy_xx) 7 (.bool yb)).other (Ne.symm ne_xy_xx) 8 (.int .u64 (yt : Int)))
              replace xs : Box 58 ((((((((((V8.alloc (.cells #[.int .i64 wb, .int .u64 (wg : Int), .int .u64 (wq : Int), .int .u64 (wd : Int)] 58)).setCell ⟨V3.heap.size, 0, none⟩ (.string yf.b0)).setCell ⟨V3.heap.size, 1, none⟩ (.string yf.b1)).setCell ⟨V3.heap.size, 2, none⟩ (.int .i64 yf.e0)).setCell ⟨V3.heap.size, 3, none⟩ (.int .i64 yf.e1)).setCell ⟨V3.heap.size, 4, none⟩ (.int .i64 yf.lim)).setCell ⟨V3.heap.size, 5, none⟩ (.int .i64 ya)).setCell ⟨V3.heap.size, 6, none⟩ (.int .u64 (yl : Int))).setCell ⟨V3.heap.size, 7, none⟩ (.bool yb)).setCell ⟨V3.heap.size, 8, none⟩ (.int .u64 (yt : Int))) (V8.heap.size) [.int .i64 wb, .int .u64 (wg : Int), .int .u64 (wq : Int), .int .u64 (wd : Int)] := (((((((((xs.other (Ne.symm ne_xs_xx) 0 (.string yf.b0)).other (Ne.symm ne_xs_xx) 1 (.string yf.b1)).other (Ne.symm ne_xs_xx) 2 (.int .i64 yf.e0)).other (Ne.symm ne_xs_xx) 3 (.int .i64 yf.e1)).other (Ne.symm ne_xs_xx) 4 (.int .i64 yf.lim)).other (Ne.symm ne_xs_xx) 5 (.int .i64 ya)).other (Ne.symm ne_xs_xx) 6 (.int .u64 (yl : Int))).other (Ne.symm ne_xs_xx) 7 (.bool yb)).other (Ne.symm ne_xs_xx) 8 (.int .u64 (yt : Int)))
              replace xx : Box 43 ((((((((((V8.alloc (.cells #[.int .i64 wb, .int .u64 (wg : Int), .int .u64 (wq : Int), .int .u64 (wd : Int)] 58)).setCell ⟨V3.heap.size, 0, none⟩ (.string yf.b0)).setCell ⟨V3.heap.size, 1, none⟩ (.string yf.b1)).setCell ⟨V3.heap.size, 2, none⟩ (.int .i64 yf.e0)).setCell ⟨V3.heap.size, 3, none⟩ (.int .i64 yf.e1)).setCell ⟨V3.heap.size, 4, none⟩ (.int .i64 yf.lim)).setCell ⟨V3.heap.size, 5, none⟩ (.int .i64 ya)).setCell ⟨V3.heap.size, 6, none⟩ (.int .u64 (yl : Int))).setCell ⟨V3.heap.size, 7, none⟩ (.bool yb)).setCell ⟨V3.heap.size, 8, none⟩ (.int .u64 (yt : Int))) (V3.heap.size) [.string yf.b0, .string yf.b1, .int .i64 yf.e0, .int .i64 yf.e1, .int .i64 yf.lim, .int .i64 ya, .int .u64 (yl : Int), .bool yb, .int .u64 (yt : Int)] := (((((((((xx.set 0 (.string yf.b0)).set 1 (.string yf.b1)).set 2 (.int .i64 yf.e0)).set 3 (.int .i64 yf.e1)).set 4 (.int .i64 yf.lim)).set 5 (.int .i64 ya)).set 6 (.int .u64 (yl : Int))).set 7 (.bool yb)).set 8 (.int .u64 (yt : Int)))
              replace hB : Below W.heap.size W ((((((((((V8.alloc (.cells #[.int .i64 wb, .int .u64 (wg : Int), .int .u64 (wq : Int), .int .u64 (wd : Int)] 58)).setCell ⟨V3.heap.size, 0, none⟩ (.string yf.b0)).setCell ⟨V3.heap.size, 1, none⟩ (.string yf.b1)).setCell ⟨V3.heap.size, 2, none⟩ (.int .i64 yf.e0)).setCell ⟨V3.heap.size, 3, none⟩ (.int .i64 yf.e1)).setCell ⟨V3.heap.size, 4, none⟩ (.int .i64 yf.lim)).setCell ⟨V3.heap.size, 5, none⟩ (.int .i64 ya)).setCell ⟨V3.heap.size, 6, none⟩ (.int .u64 (yl : Int))).setCell ⟨V3.heap.size, 7, none⟩ (.bool yb)).setCell ⟨V3.heap.size, 8, none⟩ (.int .u64 (yt : Int))) := (((((((((hB.setCell le_xx _).setCell le_xx _).setCell le_xx _).setCell le_xx _).setCell le_xx _).setCell le_xx _).setCell le_xx _).setCell le_xx _).setCell le_xx _)
              generalize ((((((((((V8.alloc (.cells #[.int .i64 wb, .int .u64 (wg : Int), .int .u64 (wq : Int), .int .u64 (wd : Int)] 58)).setCell ⟨V3.heap.size, 0, none⟩ (.string yf.b0)).setCell ⟨V3.heap.size, 1, none⟩ (.string yf.b1)).setCell ⟨V3.heap.size, 2, none⟩ (.int .i64 yf.e0)).setCell ⟨V3.heap.size, 3, none⟩ (.int .i64 yf.e1)).setCell ⟨V3.heap.size, 4, none⟩ (.int .i64 yf.lim)).setCell ⟨V3.heap.size, 5, none⟩ (.int .i64 ya)).setCell ⟨V3.heap.size, 6, none⟩ (.int .u64 (yl : Int))).setCell ⟨V3.heap.size, 7, none⟩ (.bool yb)).setCell ⟨V3.heap.size, 8, none⟩ (.int .u64 (yt : Int))) = V9 at *
              have xx0 := xx.cell 0 rfl
              have xxz0 := xx.frozen 0
              have xx1 := xx.cell 1 rfl
              have xxz1 := xx.frozen 1
              have xx2 := xx.cell 2 rfl
              have xxz2 := xx.frozen 2
              have xx3 := xx.cell 3 rfl
              have xxz3 := xx.frozen 3
              have xx4 := xx.cell 4 rfl
              have xxz4 := xx.frozen 4
              have xx5 := xx.cell 5 rfl
              have xxz5 := xx.frozen 5
              have xx6 := xx.cell 6 rfl
              have xxz6 := xx.frozen 6
              have xx7 := xx.cell 7 rfl
              have xxz7 := xx.frozen 7
              have xx8 := xx.cell 8 rfl
              have xxz8 := xx.frozen 8
              have xy0 := xy.cell 0 rfl
              have xyz0 := xy.frozen 0
              have xy1 := xy.cell 1 rfl
              have xyz1 := xy.frozen 1
              have xy2 := xy.cell 2 rfl
              have xyz2 := xy.frozen 2
              have xy3 := xy.cell 3 rfl
              have xyz3 := xy.frozen 3
              have xy4 := xy.cell 4 rfl
              have xyz4 := xy.frozen 4
              have xy5 := xy.cell 5 rfl
              have xyz5 := xy.frozen 5
              have xy6 := xy.cell 6 rfl
              have xyz6 := xy.frozen 6
              have xy7 := xy.cell 7 rfl
              have xyz7 := xy.frozen 7
              have xy8 := xy.cell 8 rfl
              have xyz8 := xy.frozen 8
              have xs0 := xs.cell 0 rfl
              have xsz0 := xs.frozen 0
              have xs1 := xs.cell 1 rfl
              have xsz1 := xs.frozen 1
              have xs2 := xs.cell 2 rfl
              have xsz2 := xs.frozen 2
              have xs3 := xs.cell 3 rfl
              have xsz3 := xs.frozen 3
              clear xx0 xxz0 xx1 xxz1 xx2 xxz2 xx3 xxz3 xx4 xxz4 xx5 xxz5 xx6 xxz6 xx7 xxz7 xx8 xxz8 xy0 xyz0 xy1 xyz1 xy2 xyz2 xy3 xyz3 xy4 xyz4 xy5 xyz5 xy6 xyz6 xy7 xyz7 xy8 xyz8 xs0 xsz0 xs1 xsz1 xs2 xsz2 xs3 xsz3
              go_roundw
              case rel => exact ⟨j + 1, (Lg.mk yf ya yl yb yt), by omega, by go_num, by rw [hsq.out], HY.out, hyf, xx, hB⟩
              case measure => simp [intOf]; omega
            · have xx0 := xx.cell 0 rfl
              have xxz0 := xx.frozen 0
              have xx1 := xx.cell 1 rfl
              have xxz1 := xx.frozen 1
              have xx2 := xx.cell 2 rfl
              have xxz2 := xx.frozen 2
              have xx3 := xx.cell 3 rfl
              have xxz3 := xx.frozen 3
              have xx4 := xx.cell 4 rfl
              have xxz4 := xx.frozen 4
              have xx5 := xx.cell 5 rfl
              have xxz5 := xx.frozen 5
              have xx6 := xx.cell 6 rfl
              have xxz6 := xx.frozen 6
              have xx7 := xx.cell 7 rfl
              have xxz7 := xx.frozen 7
              have xx8 := xx.cell 8 rfl
              have xxz8 := xx.frozen 8
              go_simp
              try go_wp2_with fail
              clear xx0 xxz0 xx1 xxz1 xx2 xxz2 xx3 xxz3 xx4 xxz4 xx5 xxz5 xx6 xxz6 xx7 xxz7 xx8 xxz8
              have xy := Box.new 43 V4 [.string ⟨#[]⟩, .string ⟨#[]⟩, .int .i64 0, .int .i64 0, .int .i64 0, .int .i64 0, .int .u64 0, .bool false, .int .u64 0]
              have ne_xy_xx : V4.heap.size ≠ V3.heap.size := Nat.ne_of_gt xx.lt
              have le_xy : W.heap.size ≤ V4.heap.size := hB.size
              replace xx := xx.alloc (.cells #[.string ⟨#[]⟩, .string ⟨#[]⟩, .int .i64 0, .int .i64 0, .int .i64 0, .int .i64 0, .int .u64 0, .bool false, .int .u64 0] 43)
              replace hB := hB.alloc hB.size (.cells #[.string ⟨#[]⟩, .string ⟨#[]⟩, .int .i64 0, .int .i64 0, .int .i64 0, .int .i64 0, .int .u64 0, .bool false, .int .u64 0] 43)
              have xx0 := xx.cell 0 rfl
              have xxz0 := xx.frozen 0
              have xx1 := xx.cell 1 rfl
              have xxz1 := xx.frozen 1
              have xx2 := xx.cell 2 rfl
              have xxz2 := xx.frozen 2
              have xx3 := xx.cell 3 rfl
              have xxz3 := xx.frozen 3
              have xx4 := xx.cell 4 rfl
              have xxz4 := xx.frozen 4
              have xx5 := xx.cell 5 rfl
              have xxz5 := xx.frozen 5
              have xx6 := xx.cell 6 rfl
              have xxz6 := xx.frozen 6
              have xx7 := xx.cell 7 rfl
              have xxz7 := xx.frozen 7
              have xx8 := xx.cell 8 rfl
              have xxz8 := xx.frozen 8
              have xy0 := xy.cell 0 rfl
              have xyz0 := xy.frozen 0
              have xy1 := xy.cell 1 rfl
              have xyz1 := xy.frozen 1
              have xy2 := xy.cell 2 rfl
              have xyz2 := xy.frozen 2
              have xy3 := xy.cell 3 rfl
              have xyz3 := xy.frozen 3
              have xy4 := xy.cell 4 rfl
              have xyz4 := xy.frozen 4
              have xy5 := xy.cell 5 rfl
              have xyz5 := xy.frozen 5
              have xy6 := xy.cell 6 rfl
              have xyz6 := xy.frozen 6
              have xy7 := xy.cell 7 rfl
              have xyz7 := xy.frozen 7
              have xy8 := xy.cell 8 rfl
              have xyz8 := xy.frozen 8
              generalize (V4.alloc (.cells #[.string ⟨#[]⟩, .string ⟨#[]⟩, .int .i64 0, .int .i64 0, .int .i64 0, .int .i64 0, .int .u64 0, .bool false, .int .u64 0] 43)) = V5 at *
              generalize V4.heap.size = g_xy at *
              clear xx0 xxz0 xx1 xxz1 xx2 xxz2 xx3 xxz3 xx4 xxz4 xx5 xxz5 xx6 xxz6 xx7 xxz7 xx8 xxz8 xy0 xyz0 xy1 xyz1 xy2 xyz2 xy3 xyz3 xy4 xyz4 xy5 xyz5 xy6 xyz6 xy7 xyz7 xy8 xyz8
              clear hHeld
              refine hK.out _ _ ?_ (fun hHeld => ?_)
              · exact ⟨xx.cell 0 rfl, xx.cell 1 rfl, xx.cell 2 rfl, xx.cell 3 rfl, xx.cell 4 rfl, xx.cell 5 rfl, xx.cell 6 rfl, xx.cell 7 rfl, xx.cell 8 rfl, (HC.out _ hB).1, (HC.out _ hB).2.1, (HC.out _ hB).2.2⟩
              clear hK K
              try simp only [Act.put, List.getElem_toArray, List.getElem_cons_zero, List.getElem_cons_succ, List.setIfInBounds_toArray, List.set_cons_zero, List.set_cons_succ]
              refine wpAnyH_ready (rs := [5]) (by kernel_rfl) (by simp) ?_
              refine AllReadyH.cons rfl (fun K hK => ?_) (AllReadyH.nil)
              have xx0 := xx.cell 0 rfl
              have xxz0 := xx.frozen 0
              have xx1 := xx.cell 1 rfl
              have xxz1 := xx.frozen 1
              have xx2 := xx.cell 2 rfl
              have xxz2 := xx.frozen 2
              have xx3 := xx.cell 3 rfl
              have xxz3 := xx.frozen 3
              have xx4 := xx.cell 4 rfl
              have xxz4 := xx.frozen 4
              have xx5 := xx.cell 5 rfl
              have xxz5 := xx.frozen 5
              have xx6 := xx.cell 6 rfl
              have xxz6 := xx.frozen 6
              have xx7 := xx.cell 7 rfl
              have xxz7 := xx.frozen 7
              have xx8 := xx.cell 8 rfl
              have xxz8 := xx.frozen 8
              have xy0 := xy.cell 0 rfl
              have xyz0 := xy.frozen 0
              have xy1 := xy.cell 1 rfl
              have xyz1 := xy.frozen 1
              have xy2 := xy.cell 2 rfl
              have xyz2 := xy.frozen 2
              have xy3 := xy.cell 3 rfl
              have xyz3 := xy.frozen 3
              have xy4 := xy.cell 4 rfl
              have xyz4 := xy.frozen 4
              have xy5 := xy.cell 5 rfl
              have xyz5 := xy.frozen 5
              have xy6 := xy.cell 6 rfl
              have xyz6 := xy.frozen 6
              have xy7 := xy.cell 7 rfl
              have xyz7 := xy.frozen 7
              have xy8 := xy.cell 8 rfl
              have xyz8 := xy.frozen 8
              go_simp
              refine (TP.out _).mono ?_
              rintro e V6 ⟨rfl, hk⟩
              clear xx0 xxz0 xx1 xxz1 xx2 xxz2 xx3 xxz3 xx4 xxz4 xx5 xxz5 xx6 xxz6 xx7 xxz7 xx8 xxz8 xy0 xyz0 xy1 xyz1 xy2 xyz2 xy3 xyz3 xy4 xyz4 xy5 xyz5 xy6 xyz6 xy7 xyz7 xy8 xyz8
              replace hB := below_seq hB hk
              replace xx := xx.seq hk
              replace xy := xy.seq hk
              clear hk
              have xx0 := xx.cell 0 rfl
              have xxz0 := xx.frozen 0
              have xx1 := xx.cell 1 rfl
              have xxz1 := xx.frozen 1
              have xx2 := xx.cell 2 rfl
              have xxz2 := xx.frozen 2
              have xx3 := xx.cell 3 rfl
              have xxz3 := xx.frozen 3
              have xx4 := xx.cell 4 rfl
              have xxz4 := xx.frozen 4
              have xx5 := xx.cell 5 rfl
              have xxz5 := xx.frozen 5
              have xx6 := xx.cell 6 rfl
              have xxz6 := xx.frozen 6
              have xx7 := xx.cell 7 rfl
              have xxz7 := xx.frozen 7
              have xx8 := xx.cell 8 rfl
              have xxz8 := xx.frozen 8
              have xy0 := xy.cell 0 rfl
              have xyz0 := xy.frozen 0
              have xy1 := xy.cell 1 rfl
              have xyz1 := xy.frozen 1
              have xy2 := xy.cell 2 rfl
              have xyz2 := xy.frozen 2
              have xy3 := xy.cell 3 rfl
              have xyz3 := xy.frozen 3
              have xy4 := xy.cell 4 rfl
              have xyz4 := xy.frozen 4
              have xy5 := xy.cell 5 rfl
              have xyz5 := xy.frozen 5
              have xy6 := xy.cell 6 rfl
              have xyz6 := xy.frozen 6
              have xy7 := xy.cell 7 rfl
              have xyz7 := xy.frozen 7
              have xy8 := xy.cell 8 rfl
              have xyz8 := xy.frozen 8
              try go_wp2_with fail
              clear xx0 xxz0 xx1 xxz1 xx2 xxz2 xx3 xxz3 xx4 xxz4 xx5 xxz5 xx6 xxz6 xx7 xxz7 xx8 xxz8 xy0 xyz0 xy1 xyz1 xy2 xyz2 xy3 xyz3 xy4 xyz4 xy5 xyz5 xy6 xyz6 xy7 xyz7 xy8 xyz8
              clear hHeld
              refine hK.out _ _ ?_ (fun hHeld => ?_)
              · exact ⟨xx.cell 0 rfl, xx.cell 1 rfl, xx.cell 2 rfl, xx.cell 3 rfl, xx.cell 4 rfl, xx.cell 5 rfl, xx.cell 6 rfl, xx.cell 7 rfl, xx.cell 8 rfl, (HC.out _ hB).1, (HC.out _ hB).2.1, (HC.out _ hB).2.2⟩
              clear hK K
              try simp only [Act.put, List.getElem_toArray, List.getElem_cons_zero, List.getElem_cons_succ, List.setIfInBounds_toArray, List.set_cons_zero, List.set_cons_succ]
              refine wpAnyH_ready (rs := [7]) (by kernel_rfl) (by simp) ?_
              refine AllReadyH.cons rfl (fun K hK => ?_) (AllReadyH.nil)
              have xx0 := xx.cell 0 rfl
              have xxz0 := xx.frozen 0
              have xx1 := xx.cell 1 rfl
              have xxz1 := xx.frozen 1
              have xx2 := xx.cell 2 rfl
              have xxz2 := xx.frozen 2
              have xx3 := xx.cell 3 rfl
              have xxz3 := xx.frozen 3
              have xx4 := xx.cell 4 rfl
              have xxz4 := xx.frozen 4
              have xx5 := xx.cell 5 rfl
              have xxz5 := xx.frozen 5
              have xx6 := xx.cell 6 rfl
              have xxz6 := xx.frozen 6
              have xx7 := xx.cell 7 rfl
              have xxz7 := xx.frozen 7
              have xx8 := xx.cell 8 rfl
              have xxz8 := xx.frozen 8
              have xy0 := xy.cell 0 rfl
              have xyz0 := xy.frozen 0
              have xy1 := xy.cell 1 rfl
              have xyz1 := xy.frozen 1
              have xy2 := xy.cell 2 rfl
              have xyz2 := xy.frozen 2
              have xy3 := xy.cell 3 rfl
              have xyz3 := xy.frozen 3
              have xy4 := xy.cell 4 rfl
              have xyz4 := xy.frozen 4
              have xy5 := xy.cell 5 rfl
              have xyz5 := xy.frozen 5
              have xy6 := xy.cell 6 rfl
              have xyz6 := xy.frozen 6
              have xy7 := xy.cell 7 rfl
              have xyz7 := xy.frozen 7
              have xy8 := xy.cell 8 rfl
              have xyz8 := xy.frozen 8
              go_simp
              try go_wp2_with fail
              clear xx0 xxz0 xx1 xxz1 xx2 xxz2 xx3 xxz3 xx4 xxz4 xx5 xxz5 xx6 xxz6 xx7 xxz7 xx8 xxz8 xy0 xyz0 xy1 xyz1 xy2 xyz2 xy3 xyz3 xy4 xyz4 xy5 xyz5 xy6 xyz6 xy7 xyz7 xy8 xyz8
              replace xx : Box 43 (((((((((V6.setCell ⟨g_xy, 0, none⟩ (.string yf.b0)).setCell ⟨g_xy, 1, none⟩ (.string yf.b1)).setCell ⟨g_xy, 2, none⟩ (.int .i64 yf.e0)).setCell ⟨g_xy, 3, none⟩ (.int .i64 yf.e1)).setCell ⟨g_xy, 4, none⟩ (.int .i64 yf.lim)).setCell ⟨g_xy, 5, none⟩ (.int .i64 ya)).setCell ⟨g_xy, 6, none⟩ (.int .u64 (yl : Int))).setCell ⟨g_xy, 7, none⟩ (.bool yb)).setCell ⟨g_xy, 8, none⟩ (.int .u64 (yt : Int))) (V3.heap.size) [.string x.f.b0, .string x.f.b1, .int .i64 x.f.e0, .int .i64 x.f.e1, .int .i64 x.f.lim, .int .i64 x.acked, .int .u64 (x.last : Int), .bool x.flying, .int .u64 (x.flight : Int)] := (((((((((xx.other ne_xy_xx 0 (.string yf.b0)).other ne_xy_xx 1 (.string yf.b1)).other ne_xy_xx 2 (.int .i64 yf.e0)).other ne_xy_xx 3 (.int .i64 yf.e1)).other ne_xy_xx 4 (.int .i64 yf.lim)).other ne_xy_xx 5 (.int .i64 ya)).other ne_xy_xx 6 (.int .u64 (yl : Int))).other ne_xy_xx 7 (.bool yb)).other ne_xy_xx 8 (.int .u64 (yt : Int)))
              replace xy : Box 43 (((((((((V6.setCell ⟨g_xy, 0, none⟩ (.string yf.b0)).setCell ⟨g_xy, 1, none⟩ (.string yf.b1)).setCell ⟨g_xy, 2, none⟩ (.int .i64 yf.e0)).setCell ⟨g_xy, 3, none⟩ (.int .i64 yf.e1)).setCell ⟨g_xy, 4, none⟩ (.int .i64 yf.lim)).setCell ⟨g_xy, 5, none⟩ (.int .i64 ya)).setCell ⟨g_xy, 6, none⟩ (.int .u64 (yl : Int))).setCell ⟨g_xy, 7, none⟩ (.bool yb)).setCell ⟨g_xy, 8, none⟩ (.int .u64 (yt : Int))) (g_xy) [.string yf.b0, .string yf.b1, .int .i64 yf.e0, .int .i64 yf.e1, .int .i64 yf.lim, .int .i64 ya, .int .u64 (yl : Int), .bool yb, .int .u64 (yt : Int)] := (((((((((xy.set 0 (.string yf.b0)).set 1 (.string yf.b1)).set 2 (.int .i64 yf.e0)).set 3 (.int .i64 yf.e1)).set 4 (.int .i64 yf.lim)).set 5 (.int .i64 ya)).set 6 (.int .u64 (yl : Int))).set 7 (.bool yb)).set 8 (.int .u64 (yt : Int)))
              replace hB : Below W.heap.size W (((((((((V6.setCell ⟨g_xy, 0, none⟩ (.string yf.b0)).setCell ⟨g_xy, 1, none⟩ (.string yf.b1)).setCell ⟨g_xy, 2, none⟩ (.int .i64 yf.e0)).setCell ⟨g_xy, 3, none⟩ (.int .i64 yf.e1)).setCell ⟨g_xy, 4, none⟩ (.int .i64 yf.lim)).setCell ⟨g_xy, 5, none⟩ (.int .i64 ya)).setCell ⟨g_xy, 6, none⟩ (.int .u64 (yl : Int))).setCell ⟨g_xy, 7, none⟩ (.bool yb)).setCell ⟨g_xy, 8, none⟩ (.int .u64 (yt : Int))) := (((((((((hB.setCell le_xy _).setCell le_xy _).setCell le_xy _).setCell le_xy _).setCell le_xy _).setCell le_xy _).setCell le_xy _).setCell le_xy _).setCell le_xy _)
              generalize (((((((((V6.setCell ⟨g_xy, 0, none⟩ (.string yf.b0)).setCell ⟨g_xy, 1, none⟩ (.string yf.b1)).setCell ⟨g_xy, 2, none⟩ (.int .i64 yf.e0)).setCell ⟨g_xy, 3, none⟩ (.int .i64 yf.e1)).setCell ⟨g_xy, 4, none⟩ (.int .i64 yf.lim)).setCell ⟨g_xy, 5, none⟩ (.int .i64 ya)).setCell ⟨g_xy, 6, none⟩ (.int .u64 (yl : Int))).setCell ⟨g_xy, 7, none⟩ (.bool yb)).setCell ⟨g_xy, 8, none⟩ (.int .u64 (yt : Int))) = V7 at *
              clear hHeld
              refine hK.out _ _ ?_ (fun hHeld => ?_)
              · exact ⟨xx.cell 0 rfl, xx.cell 1 rfl, xx.cell 2 rfl, xx.cell 3 rfl, xx.cell 4 rfl, xx.cell 5 rfl, xx.cell 6 rfl, xx.cell 7 rfl, xx.cell 8 rfl, (HC.out _ hB).1, (HC.out _ hB).2.1, (HC.out _ hB).2.2⟩
              clear hK K
              try simp only [Act.put, List.getElem_toArray, List.getElem_cons_zero, List.getElem_cons_succ, List.setIfInBounds_toArray, List.set_cons_zero, List.set_cons_succ]
              refine wpAnyH_done (by kernel_rfl) ?_ _
              clear hHeld
              have xx0 := xx.cell 0 rfl
              have xxz0 := xx.frozen 0
              have xx1 := xx.cell 1 rfl
              have xxz1 := xx.frozen 1
              have xx2 := xx.cell 2 rfl
              have xxz2 := xx.frozen 2
              have xx3 := xx.cell 3 rfl
              have xxz3 := xx.frozen 3
              have xx4 := xx.cell 4 rfl
              have xxz4 := xx.frozen 4
              have xx5 := xx.cell 5 rfl
              have xxz5 := xx.frozen 5
              have xx6 := xx.cell 6 rfl
              have xxz6 := xx.frozen 6
              have xx7 := xx.cell 7 rfl
              have xxz7 := xx.frozen 7
              have xx8 := xx.cell 8 rfl
              have xxz8 := xx.frozen 8
              have xy0 := xy.cell 0 rfl
              have xyz0 := xy.frozen 0
              have xy1 := xy.cell 1 rfl
              have xyz1 := xy.frozen 1
              have xy2 := xy.cell 2 rfl
              have xyz2 := xy.frozen 2
              have xy3 := xy.cell 3 rfl
              have xyz3 := xy.frozen 3
              have xy4 := xy.cell 4 rfl
              have xyz4 := xy.frozen 4
              have xy5 := xy.cell 5 rfl
              have xyz5 := xy.frozen 5
              have xy6 := xy.cell 6 rfl
              have xyz6 := xy.frozen 6
              have xy7 := xy.cell 7 rfl
              have xyz7 := xy.frozen 7
              have xy8 := xy.cell 8 rfl
              have xyz8 := xy.frozen 8
              go_wp2_with fail
              refine (TR.out _).mono ?_
              rintro e V8 ⟨rfl, hk⟩
              clear xx0 xxz0 xx1 xxz1 xx2 xxz2 xx3 xxz3 xx4 xxz4 xx5 xxz5 xx6 xxz6 xx7 xxz7 xx8 xxz8 xy0 xyz0 xy1 xyz1 xy2 xyz2 xy3 xyz3 xy4 xyz4 xy5 xyz5 xy6 xyz6 xy7 xyz7 xy8 xyz8
              replace hB := below_seq hB hk
              replace xx := xx.seq hk
              replace xy := xy.seq hk
              clear hk
              have xs := Box.new 58 V8 [.int .i64 wb, .int .u64 (wg : Int), .int .u64 (wq : Int), .int .u64 (wd : Int)]
              have ne_xs_xx : V8.heap.size ≠ V3.heap.size := Nat.ne_of_gt xx.lt
              have ne_xs_xy : V8.heap.size ≠ g_xy := Nat.ne_of_gt xy.lt
              have le_xs : W.heap.size ≤ V8.heap.size := hB.size
              replace xx := xx.alloc (.cells #[.int .i64 wb, .int .u64 (wg : Int), .int .u64 (wq : Int), .int .u64 (wd : Int)] 58)
              replace xy := xy.alloc (.cells #[.int .i64 wb, .int .u64 (wg : Int), .int .u64 (wq : Int), .int .u64 (wd : Int)] 58)
              replace hB := hB.alloc hB.size (.cells #[.int .i64 wb, .int .u64 (wg : Int), .int .u64 (wq : Int), .int .u64 (wd : Int)] 58)
              have xx0 := xx.cell 0 rfl
              have xxz0 := xx.frozen 0
              have xx1 := xx.cell 1 rfl
              have xxz1 := xx.frozen 1
              have xx2 := xx.cell 2 rfl
              have xxz2 := xx.frozen 2
              have xx3 := xx.cell 3 rfl
              have xxz3 := xx.frozen 3
              have xx4 := xx.cell 4 rfl
              have xxz4 := xx.frozen 4
              have xx5 := xx.cell 5 rfl
              have xxz5 := xx.frozen 5
              have xx6 := xx.cell 6 rfl
              have xxz6 := xx.frozen 6
              have xx7 := xx.cell 7 rfl
              have xxz7 := xx.frozen 7
              have xx8 := xx.cell 8 rfl
              have xxz8 := xx.frozen 8
              have xy0 := xy.cell 0 rfl
              have xyz0 := xy.frozen 0
              have xy1 := xy.cell 1 rfl
              have xyz1 := xy.frozen 1
              have xy2 := xy.cell 2 rfl
              have xyz2 := xy.frozen 2
              have xy3 := xy.cell 3 rfl
              have xyz3 := xy.frozen 3
              have xy4 := xy.cell 4 rfl
              have xyz4 := xy.frozen 4
              have xy5 := xy.cell 5 rfl
              have xyz5 := xy.frozen 5
              have xy6 := xy.cell 6 rfl
              have xyz6 := xy.frozen 6
              have xy7 := xy.cell 7 rfl
              have xyz7 := xy.frozen 7
              have xy8 := xy.cell 8 rfl
              have xyz8 := xy.frozen 8
              have xs0 := xs.cell 0 rfl
              have xsz0 := xs.frozen 0
              have xs1 := xs.cell 1 rfl
              have xsz1 := xs.frozen 1
              have xs2 := xs.cell 2 rfl
              have xsz2 := xs.frozen 2
              have xs3 := xs.cell 3 rfl
              have xsz3 := xs.frozen 3
              go_wp2
              clear xx0 xxz0 xx1 xxz1 xx2 xxz2 xx3 xxz3 xx4 xxz4 xx5 xxz5 xx6 xxz6 xx7 xxz7 xx8 xxz8 xy0 xyz0 xy1 xyz1 xy2 xyz2 xy3 xyz3 xy4 xyz4 xy5 xyz5 xy6 xyz6 xy7 xyz7 xy8 xyz8 xs0 xsz0 xs1 xsz1 xs2 xsz2 xs3 xsz3
              replace xy : Box 43 ((((((((((V8.alloc (.cells #[.int .i64 wb, .int .u64 (wg : Int), .int .u64 (wq : Int), .int .u64 (wd : Int)] 58)).setCell ⟨V3.heap.size, 0, none⟩ (.string yf.b0)).setCell ⟨V3.heap.size, 1, none⟩ (.string yf.b1)).setCell ⟨V3.heap.size, 2, none⟩ (.int .i64 yf.e0)).setCell ⟨V3.heap.size, 3, none⟩ (.int .i64 yf.e1)).setCell ⟨V3.heap.size, 4, none⟩ (.int .i64 yf.lim)).setCell ⟨V3.heap.size, 5, none⟩ (.int .i64 ya)).setCell ⟨V3.heap.size, 6, none⟩ (.int .u64 (yl : Int))).setCell ⟨V3.heap.size, 7, none⟩ (.bool yb)).setCell ⟨V3.heap.size, 8, none⟩ (.int .u64 (yt : Int))) (g_xy) [.string yf.b0, .string yf.b1, .int .i64 yf.e0, .int .i64 yf.e1, .int .i64 yf.lim, .int .i64 ya, .int .u64 (yl : Int), .bool yb, .int .u64 (yt : Int)] := (((((((((xy.other (Ne.symm ne_xy_xx) 0 (.string yf.b0)).other (Ne.symm ne_xy_xx) 1 (.string yf.b1)).other (Ne.symm ne_xy_xx) 2 (.int .i64 yf.e0)).other (Ne.symm ne_xy_xx) 3 (.int .i64 yf.e1)).other (Ne.symm ne_xy_xx) 4 (.int .i64 yf.lim)).other (Ne.symm ne_xy_xx) 5 (.int .i64 ya)).other (Ne.symm ne_xy_xx) 6 (.int .u64 (yl : Int))).other (Ne.symm ne_xy_xx) 7 (.bool yb)).other (Ne.symm ne_xy_xx) 8 (.int .u64 (yt : Int)))
              replace xs : Box 58 ((((((((((V8.alloc (.cells #[.int .i64 wb, .int .u64 (wg : Int), .int .u64 (wq : Int), .int .u64 (wd : Int)] 58)).setCell ⟨V3.heap.size, 0, none⟩ (.string yf.b0)).setCell ⟨V3.heap.size, 1, none⟩ (.string yf.b1)).setCell ⟨V3.heap.size, 2, none⟩ (.int .i64 yf.e0)).setCell ⟨V3.heap.size, 3, none⟩ (.int .i64 yf.e1)).setCell ⟨V3.heap.size, 4, none⟩ (.int .i64 yf.lim)).setCell ⟨V3.heap.size, 5, none⟩ (.int .i64 ya)).setCell ⟨V3.heap.size, 6, none⟩ (.int .u64 (yl : Int))).setCell ⟨V3.heap.size, 7, none⟩ (.bool yb)).setCell ⟨V3.heap.size, 8, none⟩ (.int .u64 (yt : Int))) (V8.heap.size) [.int .i64 wb, .int .u64 (wg : Int), .int .u64 (wq : Int), .int .u64 (wd : Int)] := (((((((((xs.other (Ne.symm ne_xs_xx) 0 (.string yf.b0)).other (Ne.symm ne_xs_xx) 1 (.string yf.b1)).other (Ne.symm ne_xs_xx) 2 (.int .i64 yf.e0)).other (Ne.symm ne_xs_xx) 3 (.int .i64 yf.e1)).other (Ne.symm ne_xs_xx) 4 (.int .i64 yf.lim)).other (Ne.symm ne_xs_xx) 5 (.int .i64 ya)).other (Ne.symm ne_xs_xx) 6 (.int .u64 (yl : Int))).other (Ne.symm ne_xs_xx) 7 (.bool yb)).other (Ne.symm ne_xs_xx) 8 (.int .u64 (yt : Int)))
              replace xx : Box 43 ((((((((((V8.alloc (.cells #[.int .i64 wb, .int .u64 (wg : Int), .int .u64 (wq : Int), .int .u64 (wd : Int)] 58)).setCell ⟨V3.heap.size, 0, none⟩ (.string yf.b0)).setCell ⟨V3.heap.size, 1, none⟩ (.string yf.b1)).setCell ⟨V3.heap.size, 2, none⟩ (.int .i64 yf.e0)).setCell ⟨V3.heap.size, 3, none⟩ (.int .i64 yf.e1)).setCell ⟨V3.heap.size, 4, none⟩ (.int .i64 yf.lim)).setCell ⟨V3.heap.size, 5, none⟩ (.int .i64 ya)).setCell ⟨V3.heap.size, 6, none⟩ (.int .u64 (yl : Int))).setCell ⟨V3.heap.size, 7, none⟩ (.bool yb)).setCell ⟨V3.heap.size, 8, none⟩ (.int .u64 (yt : Int))) (V3.heap.size) [.string yf.b0, .string yf.b1, .int .i64 yf.e0, .int .i64 yf.e1, .int .i64 yf.lim, .int .i64 ya, .int .u64 (yl : Int), .bool yb, .int .u64 (yt : Int)] := (((((((((xx.set 0 (.string yf.b0)).set 1 (.string yf.b1)).set 2 (.int .i64 yf.e0)).set 3 (.int .i64 yf.e1)).set 4 (.int .i64 yf.lim)).set 5 (.int .i64 ya)).set 6 (.int .u64 (yl : Int))).set 7 (.bool yb)).set 8 (.int .u64 (yt : Int)))
              replace hB : Below W.heap.size W ((((((((((V8.alloc (.cells #[.int .i64 wb, .int .u64 (wg : Int), .int .u64 (wq : Int), .int .u64 (wd : Int)] 58)).setCell ⟨V3.heap.size, 0, none⟩ (.string yf.b0)).setCell ⟨V3.heap.size, 1, none⟩ (.string yf.b1)).setCell ⟨V3.heap.size, 2, none⟩ (.int .i64 yf.e0)).setCell ⟨V3.heap.size, 3, none⟩ (.int .i64 yf.e1)).setCell ⟨V3.heap.size, 4, none⟩ (.int .i64 yf.lim)).setCell ⟨V3.heap.size, 5, none⟩ (.int .i64 ya)).setCell ⟨V3.heap.size, 6, none⟩ (.int .u64 (yl : Int))).setCell ⟨V3.heap.size, 7, none⟩ (.bool yb)).setCell ⟨V3.heap.size, 8, none⟩ (.int .u64 (yt : Int))) := (((((((((hB.setCell le_xx _).setCell le_xx _).setCell le_xx _).setCell le_xx _).setCell le_xx _).setCell le_xx _).setCell le_xx _).setCell le_xx _).setCell le_xx _)
              generalize ((((((((((V8.alloc (.cells #[.int .i64 wb, .int .u64 (wg : Int), .int .u64 (wq : Int), .int .u64 (wd : Int)] 58)).setCell ⟨V3.heap.size, 0, none⟩ (.string yf.b0)).setCell ⟨V3.heap.size, 1, none⟩ (.string yf.b1)).setCell ⟨V3.heap.size, 2, none⟩ (.int .i64 yf.e0)).setCell ⟨V3.heap.size, 3, none⟩ (.int .i64 yf.e1)).setCell ⟨V3.heap.size, 4, none⟩ (.int .i64 yf.lim)).setCell ⟨V3.heap.size, 5, none⟩ (.int .i64 ya)).setCell ⟨V3.heap.size, 6, none⟩ (.int .u64 (yl : Int))).setCell ⟨V3.heap.size, 7, none⟩ (.bool yb)).setCell ⟨V3.heap.size, 8, none⟩ (.int .u64 (yt : Int))) = V9 at *
              have xx0 := xx.cell 0 rfl
              have xxz0 := xx.frozen 0
              have xx1 := xx.cell 1 rfl
              have xxz1 := xx.frozen 1
              have xx2 := xx.cell 2 rfl
              have xxz2 := xx.frozen 2
              have xx3 := xx.cell 3 rfl
              have xxz3 := xx.frozen 3
              have xx4 := xx.cell 4 rfl
              have xxz4 := xx.frozen 4
              have xx5 := xx.cell 5 rfl
              have xxz5 := xx.frozen 5
              have xx6 := xx.cell 6 rfl
              have xxz6 := xx.frozen 6
              have xx7 := xx.cell 7 rfl
              have xxz7 := xx.frozen 7
              have xx8 := xx.cell 8 rfl
              have xxz8 := xx.frozen 8
              have xy0 := xy.cell 0 rfl
              have xyz0 := xy.frozen 0
              have xy1 := xy.cell 1 rfl
              have xyz1 := xy.frozen 1
              have xy2 := xy.cell 2 rfl
              have xyz2 := xy.frozen 2
              have xy3 := xy.cell 3 rfl
              have xyz3 := xy.frozen 3
              have xy4 := xy.cell 4 rfl
              have xyz4 := xy.frozen 4
              have xy5 := xy.cell 5 rfl
              have xyz5 := xy.frozen 5
              have xy6 := xy.cell 6 rfl
              have xyz6 := xy.frozen 6
              have xy7 := xy.cell 7 rfl
              have xyz7 := xy.frozen 7
              have xy8 := xy.cell 8 rfl
              have xyz8 := xy.frozen 8
              have xs0 := xs.cell 0 rfl
              have xsz0 := xs.frozen 0
              have xs1 := xs.cell 1 rfl
              have xsz1 := xs.frozen 1
              have xs2 := xs.cell 2 rfl
              have xsz2 := xs.frozen 2
              have xs3 := xs.cell 3 rfl
              have xsz3 := xs.frozen 3
              clear xx0 xxz0 xx1 xxz1 xx2 xxz2 xx3 xxz3 xx4 xxz4 xx5 xxz5 xx6 xxz6 xx7 xxz7 xx8 xxz8 xy0 xyz0 xy1 xyz1 xy2 xyz2 xy3 xyz3 xy4 xyz4 xy5 xyz5 xy6 xyz6 xy7 xyz7 xy8 xyz8 xs0 xsz0 xs1 xsz1 xs2 xsz2 xs3 xsz3
              go_roundw
              case rel => exact ⟨j + 1, (Lg.mk yf ya yl yb yt), by omega, by go_num, by rw [hsq.out], HY.out, hyf, xx, hB⟩
              case measure => simp [intOf]; omega
        · have e3 := Lib.hid (n3 hE)
          have m2 : ¬ ya > x.acked := fun h => hE (n4 h).1
          have m1 : (pickE yf == 0) = false := beq_eq_false_iff_ne.2 hE
          have TR := Lib.hid (fun (V : World) => ref10Read yf V hyf.ok)
          generalize (pickS yf).bank = wb at *
          generalize (pickS yf).gen = wg at *
          generalize (pickS yf).seq = wq at *
          generalize (pickS yf).data = wd at *
          generalize pickE yf = pe at *
          clear n1 n2 n3 n4 hE
          go_wp2_with fail
          replace hB := hB.drew
          replace xx := xx.drew
          refine wp_region_held_drew (S := fun w' => w'.cell? ⟨V3.heap.size, 0, none⟩ = some (.string x.f.b0) ∧ w'.cell? ⟨V3.heap.size, 1, none⟩ = some (.string x.f.b1) ∧ w'.cell? ⟨V3.heap.size, 2, none⟩ = some (.int .i64 x.f.e0) ∧ w'.cell? ⟨V3.heap.size, 3, none⟩ = some (.int .i64 x.f.e1) ∧ w'.cell? ⟨V3.heap.size, 4, none⟩ = some (.int .i64 x.f.lim) ∧ w'.cell? ⟨V3.heap.size, 5, none⟩ = some (.int .i64 x.acked) ∧ w'.cell? ⟨V3.heap.size, 6, none⟩ = some (.int .u64 (x.last : Int)) ∧ w'.cell? ⟨V3.heap.size, 7, none⟩ = some (.bool x.flying) ∧ w'.cell? ⟨V3.heap.size, 8, none⟩ = some (.int .u64 (x.flight : Int)) ∧ w'.cell? ⟨g, off + j * 3, none⟩ = some (.int .u64 (s.data : Int)) ∧ w'.cell? ⟨g, off + j * 3 + 1, none⟩ = some (.int .i64 s.cut) ∧ w'.cell? ⟨g, off + j * 3 + 2, none⟩ = some (.string s.mask)) (by kernel_rfl) ?_ (fun hHeld => ?_)
          · exact ⟨xx.cell 0 rfl, xx.cell 1 rfl, xx.cell 2 rfl, xx.cell 3 rfl, xx.cell 4 rfl, xx.cell 5 rfl, xx.cell 6 rfl, xx.cell 7 rfl, xx.cell 8 rfl, (HC.out _ hB).1, (HC.out _ hB).2.1, (HC.out _ hB).2.2⟩
          generalize wr.drew = V4 at *
          refine wpAnyH_take (i := 0) (v := ?_) rfl (by kernel_rfl) (by kernel_rfl) (by kernel_rfl) (fun _ _ _ h => h) (Or.inl ⟨by rfl, ?_⟩) (by assumption) ?_
          rotate_left
          · intro w hSw; (try dsimp only at hSw); go_simp; try with_reducible rfl
          try simp only [Act.put, List.getElem_toArray, List.getElem_cons_zero, List.getElem_cons_succ, List.setIfInBounds_toArray, List.set_cons_zero, List.set_cons_succ]
          refine wpAnyH_take (i := 1) (v := ?_) rfl (by kernel_rfl) (by kernel_rfl) (by kernel_rfl) (fun _ _ _ h => h) (Or.inl ⟨by rfl, ?_⟩) (by assumption) ?_
          rotate_left
          · intro w hSw; (try dsimp only at hSw); go_simp; try with_reducible rfl
          try simp only [Act.put, List.getElem_toArray, List.getElem_cons_zero, List.getElem_cons_succ, List.setIfInBounds_toArray, List.set_cons_zero, List.set_cons_succ]
          refine wpAnyH_take (i := 2) (v := ?_) rfl (by kernel_rfl) (by kernel_rfl) (by kernel_rfl) (fun _ _ _ h => h) (Or.inl ⟨by rfl, ?_⟩) (by assumption) ?_
          rotate_left
          · intro w hSw; (try dsimp only at hSw); go_simp; try with_reducible rfl
          try simp only [Act.put, List.getElem_toArray, List.getElem_cons_zero, List.getElem_cons_succ, List.setIfInBounds_toArray, List.set_cons_zero, List.set_cons_succ]
          refine wpAnyH_take (i := 3) (v := ?_) rfl (by kernel_rfl) (by kernel_rfl) (by kernel_rfl) (fun _ _ _ h => h) (Or.inl ⟨by rfl, ?_⟩) (by assumption) ?_
          rotate_left
          · intro w hSw; (try dsimp only at hSw); go_simp; try with_reducible rfl
          try simp only [Act.put, List.getElem_toArray, List.getElem_cons_zero, List.getElem_cons_succ, List.setIfInBounds_toArray, List.set_cons_zero, List.set_cons_succ]
          refine wpAnyH_take (i := 4) (v := ?_) rfl (by kernel_rfl) (by kernel_rfl) (by kernel_rfl) (fun _ _ _ h => h) (Or.inl ⟨by rfl, ?_⟩) (by assumption) ?_
          rotate_left
          · intro w hSw; (try dsimp only at hSw); go_simp; try with_reducible rfl
          try simp only [Act.put, List.getElem_toArray, List.getElem_cons_zero, List.getElem_cons_succ, List.setIfInBounds_toArray, List.set_cons_zero, List.set_cons_succ]
          refine wpAnyH_ready (rs := [5, 6]) (by kernel_rfl) (by simp) ?_
          refine AllReadyH.cons rfl (fun K hK => ?_) (AllReadyH.cons rfl (fun K hK => ?_) (AllReadyH.nil))
          · have xx0 := xx.cell 0 rfl
            have xxz0 := xx.frozen 0
            have xx1 := xx.cell 1 rfl
            have xxz1 := xx.frozen 1
            have xx2 := xx.cell 2 rfl
            have xxz2 := xx.frozen 2
            have xx3 := xx.cell 3 rfl
            have xxz3 := xx.frozen 3
            have xx4 := xx.cell 4 rfl
            have xxz4 := xx.frozen 4
            have xx5 := xx.cell 5 rfl
            have xxz5 := xx.frozen 5
            have xx6 := xx.cell 6 rfl
            have xxz6 := xx.frozen 6
            have xx7 := xx.cell 7 rfl
            have xxz7 := xx.frozen 7
            have xx8 := xx.cell 8 rfl
            have xxz8 := xx.frozen 8
            go_simp
            refine (TP.out _).mono ?_
            rintro e V5 ⟨rfl, hk⟩
            clear xx0 xxz0 xx1 xxz1 xx2 xxz2 xx3 xxz3 xx4 xxz4 xx5 xxz5 xx6 xxz6 xx7 xxz7 xx8 xxz8
            replace hB := below_seq hB hk
            replace xx := xx.seq hk
            clear hk
            have xx0 := xx.cell 0 rfl
            have xxz0 := xx.frozen 0
            have xx1 := xx.cell 1 rfl
            have xxz1 := xx.frozen 1
            have xx2 := xx.cell 2 rfl
            have xxz2 := xx.frozen 2
            have xx3 := xx.cell 3 rfl
            have xxz3 := xx.frozen 3
            have xx4 := xx.cell 4 rfl
            have xxz4 := xx.frozen 4
            have xx5 := xx.cell 5 rfl
            have xxz5 := xx.frozen 5
            have xx6 := xx.cell 6 rfl
            have xxz6 := xx.frozen 6
            have xx7 := xx.cell 7 rfl
            have xxz7 := xx.frozen 7
            have xx8 := xx.cell 8 rfl
            have xxz8 := xx.frozen 8
            try go_wp2_with fail
            clear xx0 xxz0 xx1 xxz1 xx2 xxz2 xx3 xxz3 xx4 xxz4 xx5 xxz5 xx6 xxz6 xx7 xxz7 xx8 xxz8
            clear hHeld
            refine hK.out _ _ ?_ (fun hHeld => ?_)
            · exact ⟨xx.cell 0 rfl, xx.cell 1 rfl, xx.cell 2 rfl, xx.cell 3 rfl, xx.cell 4 rfl, xx.cell 5 rfl, xx.cell 6 rfl, xx.cell 7 rfl, xx.cell 8 rfl, (HC.out _ hB).1, (HC.out _ hB).2.1, (HC.out _ hB).2.2⟩
            clear hK K
            try simp only [Act.put, List.getElem_toArray, List.getElem_cons_zero, List.getElem_cons_succ, List.setIfInBounds_toArray, List.set_cons_zero, List.set_cons_succ]
            refine wpAnyH_ready (rs := [6]) (by kernel_rfl) (by simp) ?_
            refine AllReadyH.cons rfl (fun K hK => ?_) (AllReadyH.nil)
            have xx0 := xx.cell 0 rfl
            have xxz0 := xx.frozen 0
            have xx1 := xx.cell 1 rfl
            have xxz1 := xx.frozen 1
            have xx2 := xx.cell 2 rfl
            have xxz2 := xx.frozen 2
            have xx3 := xx.cell 3 rfl
            have xxz3 := xx.frozen 3
            have xx4 := xx.cell 4 rfl
            have xxz4 := xx.frozen 4
            have xx5 := xx.cell 5 rfl
            have xxz5 := xx.frozen 5
            have xx6 := xx.cell 6 rfl
            have xxz6 := xx.frozen 6
            have xx7 := xx.cell 7 rfl
            have xxz7 := xx.frozen 7
            have xx8 := xx.cell 8 rfl
            have xxz8 := xx.frozen 8
            go_simp
            try go_wp2_with fail
            clear xx0 xxz0 xx1 xxz1 xx2 xxz2 xx3 xxz3 xx4 xxz4 xx5 xxz5 xx6 xxz6 xx7 xxz7 xx8 xxz8
            have xy := Box.new 43 V5 [.string ⟨#[]⟩, .string ⟨#[]⟩, .int .i64 0, .int .i64 0, .int .i64 0, .int .i64 0, .int .u64 0, .bool false, .int .u64 0]
            have ne_xy_xx : V5.heap.size ≠ V3.heap.size := Nat.ne_of_gt xx.lt
            have le_xy : W.heap.size ≤ V5.heap.size := hB.size
            replace xx := xx.alloc (.cells #[.string ⟨#[]⟩, .string ⟨#[]⟩, .int .i64 0, .int .i64 0, .int .i64 0, .int .i64 0, .int .u64 0, .bool false, .int .u64 0] 43)
            replace hB := hB.alloc hB.size (.cells #[.string ⟨#[]⟩, .string ⟨#[]⟩, .int .i64 0, .int .i64 0, .int .i64 0, .int .i64 0, .int .u64 0, .bool false, .int .u64 0] 43)
            have xx0 := xx.cell 0 rfl
            have xxz0 := xx.frozen 0
            have xx1 := xx.cell 1 rfl
            have xxz1 := xx.frozen 1
            have xx2 := xx.cell 2 rfl
            have xxz2 := xx.frozen 2
            have xx3 := xx.cell 3 rfl
            have xxz3 := xx.frozen 3
            have xx4 := xx.cell 4 rfl
            have xxz4 := xx.frozen 4
            have xx5 := xx.cell 5 rfl
            have xxz5 := xx.frozen 5
            have xx6 := xx.cell 6 rfl
            have xxz6 := xx.frozen 6
            have xx7 := xx.cell 7 rfl
            have xxz7 := xx.frozen 7
            have xx8 := xx.cell 8 rfl
            have xxz8 := xx.frozen 8
            have xy0 := xy.cell 0 rfl
            have xyz0 := xy.frozen 0
            have xy1 := xy.cell 1 rfl
            have xyz1 := xy.frozen 1
            have xy2 := xy.cell 2 rfl
            have xyz2 := xy.frozen 2
            have xy3 := xy.cell 3 rfl
            have xyz3 := xy.frozen 3
            have xy4 := xy.cell 4 rfl
            have xyz4 := xy.frozen 4
            have xy5 := xy.cell 5 rfl
            have xyz5 := xy.frozen 5
            have xy6 := xy.cell 6 rfl
            have xyz6 := xy.frozen 6
            have xy7 := xy.cell 7 rfl
            have xyz7 := xy.frozen 7
            have xy8 := xy.cell 8 rfl
            have xyz8 := xy.frozen 8
            generalize (V5.alloc (.cells #[.string ⟨#[]⟩, .string ⟨#[]⟩, .int .i64 0, .int .i64 0, .int .i64 0, .int .i64 0, .int .u64 0, .bool false, .int .u64 0] 43)) = V6 at *
            generalize V5.heap.size = g_xy at *
            clear xx0 xxz0 xx1 xxz1 xx2 xxz2 xx3 xxz3 xx4 xxz4 xx5 xxz5 xx6 xxz6 xx7 xxz7 xx8 xxz8 xy0 xyz0 xy1 xyz1 xy2 xyz2 xy3 xyz3 xy4 xyz4 xy5 xyz5 xy6 xyz6 xy7 xyz7 xy8 xyz8
            clear hHeld
            refine hK.out _ _ ?_ (fun hHeld => ?_)
            · exact ⟨xx.cell 0 rfl, xx.cell 1 rfl, xx.cell 2 rfl, xx.cell 3 rfl, xx.cell 4 rfl, xx.cell 5 rfl, xx.cell 6 rfl, xx.cell 7 rfl, xx.cell 8 rfl, (HC.out _ hB).1, (HC.out _ hB).2.1, (HC.out _ hB).2.2⟩
            clear hK K
            try simp only [Act.put, List.getElem_toArray, List.getElem_cons_zero, List.getElem_cons_succ, List.setIfInBounds_toArray, List.set_cons_zero, List.set_cons_succ]
            refine wpAnyH_ready (rs := [7]) (by kernel_rfl) (by simp) ?_
            refine AllReadyH.cons rfl (fun K hK => ?_) (AllReadyH.nil)
            have xx0 := xx.cell 0 rfl
            have xxz0 := xx.frozen 0
            have xx1 := xx.cell 1 rfl
            have xxz1 := xx.frozen 1
            have xx2 := xx.cell 2 rfl
            have xxz2 := xx.frozen 2
            have xx3 := xx.cell 3 rfl
            have xxz3 := xx.frozen 3
            have xx4 := xx.cell 4 rfl
            have xxz4 := xx.frozen 4
            have xx5 := xx.cell 5 rfl
            have xxz5 := xx.frozen 5
            have xx6 := xx.cell 6 rfl
            have xxz6 := xx.frozen 6
            have xx7 := xx.cell 7 rfl
            have xxz7 := xx.frozen 7
            have xx8 := xx.cell 8 rfl
            have xxz8 := xx.frozen 8
            have xy0 := xy.cell 0 rfl
            have xyz0 := xy.frozen 0
            have xy1 := xy.cell 1 rfl
            have xyz1 := xy.frozen 1
            have xy2 := xy.cell 2 rfl
            have xyz2 := xy.frozen 2
            have xy3 := xy.cell 3 rfl
            have xyz3 := xy.frozen 3
            have xy4 := xy.cell 4 rfl
            have xyz4 := xy.frozen 4
            have xy5 := xy.cell 5 rfl
            have xyz5 := xy.frozen 5
            have xy6 := xy.cell 6 rfl
            have xyz6 := xy.frozen 6
            have xy7 := xy.cell 7 rfl
            have xyz7 := xy.frozen 7
            have xy8 := xy.cell 8 rfl
            have xyz8 := xy.frozen 8
            go_simp
            try go_wp2_with fail
            clear xx0 xxz0 xx1 xxz1 xx2 xxz2 xx3 xxz3 xx4 xxz4 xx5 xxz5 xx6 xxz6 xx7 xxz7 xx8 xxz8 xy0 xyz0 xy1 xyz1 xy2 xyz2 xy3 xyz3 xy4 xyz4 xy5 xyz5 xy6 xyz6 xy7 xyz7 xy8 xyz8
            replace xx : Box 43 (((((((((V6.setCell ⟨g_xy, 0, none⟩ (.string yf.b0)).setCell ⟨g_xy, 1, none⟩ (.string yf.b1)).setCell ⟨g_xy, 2, none⟩ (.int .i64 yf.e0)).setCell ⟨g_xy, 3, none⟩ (.int .i64 yf.e1)).setCell ⟨g_xy, 4, none⟩ (.int .i64 yf.lim)).setCell ⟨g_xy, 5, none⟩ (.int .i64 ya)).setCell ⟨g_xy, 6, none⟩ (.int .u64 (yl : Int))).setCell ⟨g_xy, 7, none⟩ (.bool yb)).setCell ⟨g_xy, 8, none⟩ (.int .u64 (yt : Int))) (V3.heap.size) [.string x.f.b0, .string x.f.b1, .int .i64 x.f.e0, .int .i64 x.f.e1, .int .i64 x.f.lim, .int .i64 x.acked, .int .u64 (x.last : Int), .bool x.flying, .int .u64 (x.flight : Int)] := (((((((((xx.other ne_xy_xx 0 (.string yf.b0)).other ne_xy_xx 1 (.string yf.b1)).other ne_xy_xx 2 (.int .i64 yf.e0)).other ne_xy_xx 3 (.int .i64 yf.e1)).other ne_xy_xx 4 (.int .i64 yf.lim)).other ne_xy_xx 5 (.int .i64 ya)).other ne_xy_xx 6 (.int .u64 (yl : Int))).other ne_xy_xx 7 (.bool yb)).other ne_xy_xx 8 (.int .u64 (yt : Int)))
            replace xy : Box 43 (((((((((V6.setCell ⟨g_xy, 0, none⟩ (.string yf.b0)).setCell ⟨g_xy, 1, none⟩ (.string yf.b1)).setCell ⟨g_xy, 2, none⟩ (.int .i64 yf.e0)).setCell ⟨g_xy, 3, none⟩ (.int .i64 yf.e1)).setCell ⟨g_xy, 4, none⟩ (.int .i64 yf.lim)).setCell ⟨g_xy, 5, none⟩ (.int .i64 ya)).setCell ⟨g_xy, 6, none⟩ (.int .u64 (yl : Int))).setCell ⟨g_xy, 7, none⟩ (.bool yb)).setCell ⟨g_xy, 8, none⟩ (.int .u64 (yt : Int))) (g_xy) [.string yf.b0, .string yf.b1, .int .i64 yf.e0, .int .i64 yf.e1, .int .i64 yf.lim, .int .i64 ya, .int .u64 (yl : Int), .bool yb, .int .u64 (yt : Int)] := (((((((((xy.set 0 (.string yf.b0)).set 1 (.string yf.b1)).set 2 (.int .i64 yf.e0)).set 3 (.int .i64 yf.e1)).set 4 (.int .i64 yf.lim)).set 5 (.int .i64 ya)).set 6 (.int .u64 (yl : Int))).set 7 (.bool yb)).set 8 (.int .u64 (yt : Int)))
            replace hB : Below W.heap.size W (((((((((V6.setCell ⟨g_xy, 0, none⟩ (.string yf.b0)).setCell ⟨g_xy, 1, none⟩ (.string yf.b1)).setCell ⟨g_xy, 2, none⟩ (.int .i64 yf.e0)).setCell ⟨g_xy, 3, none⟩ (.int .i64 yf.e1)).setCell ⟨g_xy, 4, none⟩ (.int .i64 yf.lim)).setCell ⟨g_xy, 5, none⟩ (.int .i64 ya)).setCell ⟨g_xy, 6, none⟩ (.int .u64 (yl : Int))).setCell ⟨g_xy, 7, none⟩ (.bool yb)).setCell ⟨g_xy, 8, none⟩ (.int .u64 (yt : Int))) := (((((((((hB.setCell le_xy _).setCell le_xy _).setCell le_xy _).setCell le_xy _).setCell le_xy _).setCell le_xy _).setCell le_xy _).setCell le_xy _).setCell le_xy _)
            generalize (((((((((V6.setCell ⟨g_xy, 0, none⟩ (.string yf.b0)).setCell ⟨g_xy, 1, none⟩ (.string yf.b1)).setCell ⟨g_xy, 2, none⟩ (.int .i64 yf.e0)).setCell ⟨g_xy, 3, none⟩ (.int .i64 yf.e1)).setCell ⟨g_xy, 4, none⟩ (.int .i64 yf.lim)).setCell ⟨g_xy, 5, none⟩ (.int .i64 ya)).setCell ⟨g_xy, 6, none⟩ (.int .u64 (yl : Int))).setCell ⟨g_xy, 7, none⟩ (.bool yb)).setCell ⟨g_xy, 8, none⟩ (.int .u64 (yt : Int))) = V7 at *
            clear hHeld
            refine hK.out _ _ ?_ (fun hHeld => ?_)
            · exact ⟨xx.cell 0 rfl, xx.cell 1 rfl, xx.cell 2 rfl, xx.cell 3 rfl, xx.cell 4 rfl, xx.cell 5 rfl, xx.cell 6 rfl, xx.cell 7 rfl, xx.cell 8 rfl, (HC.out _ hB).1, (HC.out _ hB).2.1, (HC.out _ hB).2.2⟩
            clear hK K
            try simp only [Act.put, List.getElem_toArray, List.getElem_cons_zero, List.getElem_cons_succ, List.setIfInBounds_toArray, List.set_cons_zero, List.set_cons_succ]
            refine wpAnyH_done (by kernel_rfl) ?_ _
            clear hHeld
            have xx0 := xx.cell 0 rfl
            have xxz0 := xx.frozen 0
            have xx1 := xx.cell 1 rfl
            have xxz1 := xx.frozen 1
            have xx2 := xx.cell 2 rfl
            have xxz2 := xx.frozen 2
            have xx3 := xx.cell 3 rfl
            have xxz3 := xx.frozen 3
            have xx4 := xx.cell 4 rfl
            have xxz4 := xx.frozen 4
            have xx5 := xx.cell 5 rfl
            have xxz5 := xx.frozen 5
            have xx6 := xx.cell 6 rfl
            have xxz6 := xx.frozen 6
            have xx7 := xx.cell 7 rfl
            have xxz7 := xx.frozen 7
            have xx8 := xx.cell 8 rfl
            have xxz8 := xx.frozen 8
            have xy0 := xy.cell 0 rfl
            have xyz0 := xy.frozen 0
            have xy1 := xy.cell 1 rfl
            have xyz1 := xy.frozen 1
            have xy2 := xy.cell 2 rfl
            have xyz2 := xy.frozen 2
            have xy3 := xy.cell 3 rfl
            have xyz3 := xy.frozen 3
            have xy4 := xy.cell 4 rfl
            have xyz4 := xy.frozen 4
            have xy5 := xy.cell 5 rfl
            have xyz5 := xy.frozen 5
            have xy6 := xy.cell 6 rfl
            have xyz6 := xy.frozen 6
            have xy7 := xy.cell 7 rfl
            have xyz7 := xy.frozen 7
            have xy8 := xy.cell 8 rfl
            have xyz8 := xy.frozen 8
            go_wp2_with fail
            refine (TR.out _).mono ?_
            rintro e V8 ⟨rfl, hk⟩
            clear xx0 xxz0 xx1 xxz1 xx2 xxz2 xx3 xxz3 xx4 xxz4 xx5 xxz5 xx6 xxz6 xx7 xxz7 xx8 xxz8 xy0 xyz0 xy1 xyz1 xy2 xyz2 xy3 xyz3 xy4 xyz4 xy5 xyz5 xy6 xyz6 xy7 xyz7 xy8 xyz8
            replace hB := below_seq hB hk
            replace xx := xx.seq hk
            replace xy := xy.seq hk
            clear hk
            have xs := Box.new 58 V8 [.int .i64 wb, .int .u64 (wg : Int), .int .u64 (wq : Int), .int .u64 (wd : Int)]
            have ne_xs_xx : V8.heap.size ≠ V3.heap.size := Nat.ne_of_gt xx.lt
            have ne_xs_xy : V8.heap.size ≠ g_xy := Nat.ne_of_gt xy.lt
            have le_xs : W.heap.size ≤ V8.heap.size := hB.size
            replace xx := xx.alloc (.cells #[.int .i64 wb, .int .u64 (wg : Int), .int .u64 (wq : Int), .int .u64 (wd : Int)] 58)
            replace xy := xy.alloc (.cells #[.int .i64 wb, .int .u64 (wg : Int), .int .u64 (wq : Int), .int .u64 (wd : Int)] 58)
            replace hB := hB.alloc hB.size (.cells #[.int .i64 wb, .int .u64 (wg : Int), .int .u64 (wq : Int), .int .u64 (wd : Int)] 58)
            have xx0 := xx.cell 0 rfl
            have xxz0 := xx.frozen 0
            have xx1 := xx.cell 1 rfl
            have xxz1 := xx.frozen 1
            have xx2 := xx.cell 2 rfl
            have xxz2 := xx.frozen 2
            have xx3 := xx.cell 3 rfl
            have xxz3 := xx.frozen 3
            have xx4 := xx.cell 4 rfl
            have xxz4 := xx.frozen 4
            have xx5 := xx.cell 5 rfl
            have xxz5 := xx.frozen 5
            have xx6 := xx.cell 6 rfl
            have xxz6 := xx.frozen 6
            have xx7 := xx.cell 7 rfl
            have xxz7 := xx.frozen 7
            have xx8 := xx.cell 8 rfl
            have xxz8 := xx.frozen 8
            have xy0 := xy.cell 0 rfl
            have xyz0 := xy.frozen 0
            have xy1 := xy.cell 1 rfl
            have xyz1 := xy.frozen 1
            have xy2 := xy.cell 2 rfl
            have xyz2 := xy.frozen 2
            have xy3 := xy.cell 3 rfl
            have xyz3 := xy.frozen 3
            have xy4 := xy.cell 4 rfl
            have xyz4 := xy.frozen 4
            have xy5 := xy.cell 5 rfl
            have xyz5 := xy.frozen 5
            have xy6 := xy.cell 6 rfl
            have xyz6 := xy.frozen 6
            have xy7 := xy.cell 7 rfl
            have xyz7 := xy.frozen 7
            have xy8 := xy.cell 8 rfl
            have xyz8 := xy.frozen 8
            have xs0 := xs.cell 0 rfl
            have xsz0 := xs.frozen 0
            have xs1 := xs.cell 1 rfl
            have xsz1 := xs.frozen 1
            have xs2 := xs.cell 2 rfl
            have xsz2 := xs.frozen 2
            have xs3 := xs.cell 3 rfl
            have xsz3 := xs.frozen 3
            go_wp2
            clear xx0 xxz0 xx1 xxz1 xx2 xxz2 xx3 xxz3 xx4 xxz4 xx5 xxz5 xx6 xxz6 xx7 xxz7 xx8 xxz8 xy0 xyz0 xy1 xyz1 xy2 xyz2 xy3 xyz3 xy4 xyz4 xy5 xyz5 xy6 xyz6 xy7 xyz7 xy8 xyz8 xs0 xsz0 xs1 xsz1 xs2 xsz2 xs3 xsz3
            replace xy : Box 43 ((((((((((V8.alloc (.cells #[.int .i64 wb, .int .u64 (wg : Int), .int .u64 (wq : Int), .int .u64 (wd : Int)] 58)).setCell ⟨V3.heap.size, 0, none⟩ (.string yf.b0)).setCell ⟨V3.heap.size, 1, none⟩ (.string yf.b1)).setCell ⟨V3.heap.size, 2, none⟩ (.int .i64 yf.e0)).setCell ⟨V3.heap.size, 3, none⟩ (.int .i64 yf.e1)).setCell ⟨V3.heap.size, 4, none⟩ (.int .i64 yf.lim)).setCell ⟨V3.heap.size, 5, none⟩ (.int .i64 ya)).setCell ⟨V3.heap.size, 6, none⟩ (.int .u64 (yl : Int))).setCell ⟨V3.heap.size, 7, none⟩ (.bool yb)).setCell ⟨V3.heap.size, 8, none⟩ (.int .u64 (yt : Int))) (g_xy) [.string yf.b0, .string yf.b1, .int .i64 yf.e0, .int .i64 yf.e1, .int .i64 yf.lim, .int .i64 ya, .int .u64 (yl : Int), .bool yb, .int .u64 (yt : Int)] := (((((((((xy.other (Ne.symm ne_xy_xx) 0 (.string yf.b0)).other (Ne.symm ne_xy_xx) 1 (.string yf.b1)).other (Ne.symm ne_xy_xx) 2 (.int .i64 yf.e0)).other (Ne.symm ne_xy_xx) 3 (.int .i64 yf.e1)).other (Ne.symm ne_xy_xx) 4 (.int .i64 yf.lim)).other (Ne.symm ne_xy_xx) 5 (.int .i64 ya)).other (Ne.symm ne_xy_xx) 6 (.int .u64 (yl : Int))).other (Ne.symm ne_xy_xx) 7 (.bool yb)).other (Ne.symm ne_xy_xx) 8 (.int .u64 (yt : Int)))
            replace xs : Box 58 ((((((((((V8.alloc (.cells #[.int .i64 wb, .int .u64 (wg : Int), .int .u64 (wq : Int), .int .u64 (wd : Int)] 58)).setCell ⟨V3.heap.size, 0, none⟩ (.string yf.b0)).setCell ⟨V3.heap.size, 1, none⟩ (.string yf.b1)).setCell ⟨V3.heap.size, 2, none⟩ (.int .i64 yf.e0)).setCell ⟨V3.heap.size, 3, none⟩ (.int .i64 yf.e1)).setCell ⟨V3.heap.size, 4, none⟩ (.int .i64 yf.lim)).setCell ⟨V3.heap.size, 5, none⟩ (.int .i64 ya)).setCell ⟨V3.heap.size, 6, none⟩ (.int .u64 (yl : Int))).setCell ⟨V3.heap.size, 7, none⟩ (.bool yb)).setCell ⟨V3.heap.size, 8, none⟩ (.int .u64 (yt : Int))) (V8.heap.size) [.int .i64 wb, .int .u64 (wg : Int), .int .u64 (wq : Int), .int .u64 (wd : Int)] := (((((((((xs.other (Ne.symm ne_xs_xx) 0 (.string yf.b0)).other (Ne.symm ne_xs_xx) 1 (.string yf.b1)).other (Ne.symm ne_xs_xx) 2 (.int .i64 yf.e0)).other (Ne.symm ne_xs_xx) 3 (.int .i64 yf.e1)).other (Ne.symm ne_xs_xx) 4 (.int .i64 yf.lim)).other (Ne.symm ne_xs_xx) 5 (.int .i64 ya)).other (Ne.symm ne_xs_xx) 6 (.int .u64 (yl : Int))).other (Ne.symm ne_xs_xx) 7 (.bool yb)).other (Ne.symm ne_xs_xx) 8 (.int .u64 (yt : Int)))
            replace xx : Box 43 ((((((((((V8.alloc (.cells #[.int .i64 wb, .int .u64 (wg : Int), .int .u64 (wq : Int), .int .u64 (wd : Int)] 58)).setCell ⟨V3.heap.size, 0, none⟩ (.string yf.b0)).setCell ⟨V3.heap.size, 1, none⟩ (.string yf.b1)).setCell ⟨V3.heap.size, 2, none⟩ (.int .i64 yf.e0)).setCell ⟨V3.heap.size, 3, none⟩ (.int .i64 yf.e1)).setCell ⟨V3.heap.size, 4, none⟩ (.int .i64 yf.lim)).setCell ⟨V3.heap.size, 5, none⟩ (.int .i64 ya)).setCell ⟨V3.heap.size, 6, none⟩ (.int .u64 (yl : Int))).setCell ⟨V3.heap.size, 7, none⟩ (.bool yb)).setCell ⟨V3.heap.size, 8, none⟩ (.int .u64 (yt : Int))) (V3.heap.size) [.string yf.b0, .string yf.b1, .int .i64 yf.e0, .int .i64 yf.e1, .int .i64 yf.lim, .int .i64 ya, .int .u64 (yl : Int), .bool yb, .int .u64 (yt : Int)] := (((((((((xx.set 0 (.string yf.b0)).set 1 (.string yf.b1)).set 2 (.int .i64 yf.e0)).set 3 (.int .i64 yf.e1)).set 4 (.int .i64 yf.lim)).set 5 (.int .i64 ya)).set 6 (.int .u64 (yl : Int))).set 7 (.bool yb)).set 8 (.int .u64 (yt : Int)))
            replace hB : Below W.heap.size W ((((((((((V8.alloc (.cells #[.int .i64 wb, .int .u64 (wg : Int), .int .u64 (wq : Int), .int .u64 (wd : Int)] 58)).setCell ⟨V3.heap.size, 0, none⟩ (.string yf.b0)).setCell ⟨V3.heap.size, 1, none⟩ (.string yf.b1)).setCell ⟨V3.heap.size, 2, none⟩ (.int .i64 yf.e0)).setCell ⟨V3.heap.size, 3, none⟩ (.int .i64 yf.e1)).setCell ⟨V3.heap.size, 4, none⟩ (.int .i64 yf.lim)).setCell ⟨V3.heap.size, 5, none⟩ (.int .i64 ya)).setCell ⟨V3.heap.size, 6, none⟩ (.int .u64 (yl : Int))).setCell ⟨V3.heap.size, 7, none⟩ (.bool yb)).setCell ⟨V3.heap.size, 8, none⟩ (.int .u64 (yt : Int))) := (((((((((hB.setCell le_xx _).setCell le_xx _).setCell le_xx _).setCell le_xx _).setCell le_xx _).setCell le_xx _).setCell le_xx _).setCell le_xx _).setCell le_xx _)
            generalize ((((((((((V8.alloc (.cells #[.int .i64 wb, .int .u64 (wg : Int), .int .u64 (wq : Int), .int .u64 (wd : Int)] 58)).setCell ⟨V3.heap.size, 0, none⟩ (.string yf.b0)).setCell ⟨V3.heap.size, 1, none⟩ (.string yf.b1)).setCell ⟨V3.heap.size, 2, none⟩ (.int .i64 yf.e0)).setCell ⟨V3.heap.size, 3, none⟩ (.int .i64 yf.e1)).setCell ⟨V3.heap.size, 4, none⟩ (.int .i64 yf.lim)).setCell ⟨V3.heap.size, 5, none⟩ (.int .i64 ya)).setCell ⟨V3.heap.size, 6, none⟩ (.int .u64 (yl : Int))).setCell ⟨V3.heap.size, 7, none⟩ (.bool yb)).setCell ⟨V3.heap.size, 8, none⟩ (.int .u64 (yt : Int))) = V9 at *
            have xx0 := xx.cell 0 rfl
            have xxz0 := xx.frozen 0
            have xx1 := xx.cell 1 rfl
            have xxz1 := xx.frozen 1
            have xx2 := xx.cell 2 rfl
            have xxz2 := xx.frozen 2
            have xx3 := xx.cell 3 rfl
            have xxz3 := xx.frozen 3
            have xx4 := xx.cell 4 rfl
            have xxz4 := xx.frozen 4
            have xx5 := xx.cell 5 rfl
            have xxz5 := xx.frozen 5
            have xx6 := xx.cell 6 rfl
            have xxz6 := xx.frozen 6
            have xx7 := xx.cell 7 rfl
            have xxz7 := xx.frozen 7
            have xx8 := xx.cell 8 rfl
            have xxz8 := xx.frozen 8
            have xy0 := xy.cell 0 rfl
            have xyz0 := xy.frozen 0
            have xy1 := xy.cell 1 rfl
            have xyz1 := xy.frozen 1
            have xy2 := xy.cell 2 rfl
            have xyz2 := xy.frozen 2
            have xy3 := xy.cell 3 rfl
            have xyz3 := xy.frozen 3
            have xy4 := xy.cell 4 rfl
            have xyz4 := xy.frozen 4
            have xy5 := xy.cell 5 rfl
            have xyz5 := xy.frozen 5
            have xy6 := xy.cell 6 rfl
            have xyz6 := xy.frozen 6
            have xy7 := xy.cell 7 rfl
            have xyz7 := xy.frozen 7
            have xy8 := xy.cell 8 rfl
            have xyz8 := xy.frozen 8
            have xs0 := xs.cell 0 rfl
            have xsz0 := xs.frozen 0
            have xs1 := xs.cell 1 rfl
            have xsz1 := xs.frozen 1
            have xs2 := xs.cell 2 rfl
            have xsz2 := xs.frozen 2
            have xs3 := xs.cell 3 rfl
            have xsz3 := xs.frozen 3
            clear xx0 xxz0 xx1 xxz1 xx2 xxz2 xx3 xxz3 xx4 xxz4 xx5 xxz5 xx6 xxz6 xx7 xxz7 xx8 xxz8 xy0 xyz0 xy1 xyz1 xy2 xyz2 xy3 xyz3 xy4 xyz4 xy5 xyz5 xy6 xyz6 xy7 xyz7 xy8 xyz8 xs0 xsz0 xs1 xsz1 xs2 xsz2 xs3 xsz3
            go_roundw
            case rel => exact ⟨j + 1, (Lg.mk yf ya yl yb yt), by omega, by go_num, by rw [e3.out], HY.out, hyf, xx, hB⟩
            case measure => simp [intOf]; omega
          · have xx0 := xx.cell 0 rfl
            have xxz0 := xx.frozen 0
            have xx1 := xx.cell 1 rfl
            have xxz1 := xx.frozen 1
            have xx2 := xx.cell 2 rfl
            have xxz2 := xx.frozen 2
            have xx3 := xx.cell 3 rfl
            have xxz3 := xx.frozen 3
            have xx4 := xx.cell 4 rfl
            have xxz4 := xx.frozen 4
            have xx5 := xx.cell 5 rfl
            have xxz5 := xx.frozen 5
            have xx6 := xx.cell 6 rfl
            have xxz6 := xx.frozen 6
            have xx7 := xx.cell 7 rfl
            have xxz7 := xx.frozen 7
            have xx8 := xx.cell 8 rfl
            have xxz8 := xx.frozen 8
            go_simp
            try go_wp2_with fail
            clear xx0 xxz0 xx1 xxz1 xx2 xxz2 xx3 xxz3 xx4 xxz4 xx5 xxz5 xx6 xxz6 xx7 xxz7 xx8 xxz8
            have xy := Box.new 43 V4 [.string ⟨#[]⟩, .string ⟨#[]⟩, .int .i64 0, .int .i64 0, .int .i64 0, .int .i64 0, .int .u64 0, .bool false, .int .u64 0]
            have ne_xy_xx : V4.heap.size ≠ V3.heap.size := Nat.ne_of_gt xx.lt
            have le_xy : W.heap.size ≤ V4.heap.size := hB.size
            replace xx := xx.alloc (.cells #[.string ⟨#[]⟩, .string ⟨#[]⟩, .int .i64 0, .int .i64 0, .int .i64 0, .int .i64 0, .int .u64 0, .bool false, .int .u64 0] 43)
            replace hB := hB.alloc hB.size (.cells #[.string ⟨#[]⟩, .string ⟨#[]⟩, .int .i64 0, .int .i64 0, .int .i64 0, .int .i64 0, .int .u64 0, .bool false, .int .u64 0] 43)
            have xx0 := xx.cell 0 rfl
            have xxz0 := xx.frozen 0
            have xx1 := xx.cell 1 rfl
            have xxz1 := xx.frozen 1
            have xx2 := xx.cell 2 rfl
            have xxz2 := xx.frozen 2
            have xx3 := xx.cell 3 rfl
            have xxz3 := xx.frozen 3
            have xx4 := xx.cell 4 rfl
            have xxz4 := xx.frozen 4
            have xx5 := xx.cell 5 rfl
            have xxz5 := xx.frozen 5
            have xx6 := xx.cell 6 rfl
            have xxz6 := xx.frozen 6
            have xx7 := xx.cell 7 rfl
            have xxz7 := xx.frozen 7
            have xx8 := xx.cell 8 rfl
            have xxz8 := xx.frozen 8
            have xy0 := xy.cell 0 rfl
            have xyz0 := xy.frozen 0
            have xy1 := xy.cell 1 rfl
            have xyz1 := xy.frozen 1
            have xy2 := xy.cell 2 rfl
            have xyz2 := xy.frozen 2
            have xy3 := xy.cell 3 rfl
            have xyz3 := xy.frozen 3
            have xy4 := xy.cell 4 rfl
            have xyz4 := xy.frozen 4
            have xy5 := xy.cell 5 rfl
            have xyz5 := xy.frozen 5
            have xy6 := xy.cell 6 rfl
            have xyz6 := xy.frozen 6
            have xy7 := xy.cell 7 rfl
            have xyz7 := xy.frozen 7
            have xy8 := xy.cell 8 rfl
            have xyz8 := xy.frozen 8
            generalize (V4.alloc (.cells #[.string ⟨#[]⟩, .string ⟨#[]⟩, .int .i64 0, .int .i64 0, .int .i64 0, .int .i64 0, .int .u64 0, .bool false, .int .u64 0] 43)) = V5 at *
            generalize V4.heap.size = g_xy at *
            clear xx0 xxz0 xx1 xxz1 xx2 xxz2 xx3 xxz3 xx4 xxz4 xx5 xxz5 xx6 xxz6 xx7 xxz7 xx8 xxz8 xy0 xyz0 xy1 xyz1 xy2 xyz2 xy3 xyz3 xy4 xyz4 xy5 xyz5 xy6 xyz6 xy7 xyz7 xy8 xyz8
            clear hHeld
            refine hK.out _ _ ?_ (fun hHeld => ?_)
            · exact ⟨xx.cell 0 rfl, xx.cell 1 rfl, xx.cell 2 rfl, xx.cell 3 rfl, xx.cell 4 rfl, xx.cell 5 rfl, xx.cell 6 rfl, xx.cell 7 rfl, xx.cell 8 rfl, (HC.out _ hB).1, (HC.out _ hB).2.1, (HC.out _ hB).2.2⟩
            clear hK K
            try simp only [Act.put, List.getElem_toArray, List.getElem_cons_zero, List.getElem_cons_succ, List.setIfInBounds_toArray, List.set_cons_zero, List.set_cons_succ]
            refine wpAnyH_ready (rs := [5]) (by kernel_rfl) (by simp) ?_
            refine AllReadyH.cons rfl (fun K hK => ?_) (AllReadyH.nil)
            have xx0 := xx.cell 0 rfl
            have xxz0 := xx.frozen 0
            have xx1 := xx.cell 1 rfl
            have xxz1 := xx.frozen 1
            have xx2 := xx.cell 2 rfl
            have xxz2 := xx.frozen 2
            have xx3 := xx.cell 3 rfl
            have xxz3 := xx.frozen 3
            have xx4 := xx.cell 4 rfl
            have xxz4 := xx.frozen 4
            have xx5 := xx.cell 5 rfl
            have xxz5 := xx.frozen 5
            have xx6 := xx.cell 6 rfl
            have xxz6 := xx.frozen 6
            have xx7 := xx.cell 7 rfl
            have xxz7 := xx.frozen 7
            have xx8 := xx.cell 8 rfl
            have xxz8 := xx.frozen 8
            have xy0 := xy.cell 0 rfl
            have xyz0 := xy.frozen 0
            have xy1 := xy.cell 1 rfl
            have xyz1 := xy.frozen 1
            have xy2 := xy.cell 2 rfl
            have xyz2 := xy.frozen 2
            have xy3 := xy.cell 3 rfl
            have xyz3 := xy.frozen 3
            have xy4 := xy.cell 4 rfl
            have xyz4 := xy.frozen 4
            have xy5 := xy.cell 5 rfl
            have xyz5 := xy.frozen 5
            have xy6 := xy.cell 6 rfl
            have xyz6 := xy.frozen 6
            have xy7 := xy.cell 7 rfl
            have xyz7 := xy.frozen 7
            have xy8 := xy.cell 8 rfl
            have xyz8 := xy.frozen 8
            go_simp
            refine (TP.out _).mono ?_
            rintro e V6 ⟨rfl, hk⟩
            clear xx0 xxz0 xx1 xxz1 xx2 xxz2 xx3 xxz3 xx4 xxz4 xx5 xxz5 xx6 xxz6 xx7 xxz7 xx8 xxz8 xy0 xyz0 xy1 xyz1 xy2 xyz2 xy3 xyz3 xy4 xyz4 xy5 xyz5 xy6 xyz6 xy7 xyz7 xy8 xyz8
            replace hB := below_seq hB hk
            replace xx := xx.seq hk
            replace xy := xy.seq hk
            clear hk
            have xx0 := xx.cell 0 rfl
            have xxz0 := xx.frozen 0
            have xx1 := xx.cell 1 rfl
            have xxz1 := xx.frozen 1
            have xx2 := xx.cell 2 rfl
            have xxz2 := xx.frozen 2
            have xx3 := xx.cell 3 rfl
            have xxz3 := xx.frozen 3
            have xx4 := xx.cell 4 rfl
            have xxz4 := xx.frozen 4
            have xx5 := xx.cell 5 rfl
            have xxz5 := xx.frozen 5
            have xx6 := xx.cell 6 rfl
            have xxz6 := xx.frozen 6
            have xx7 := xx.cell 7 rfl
            have xxz7 := xx.frozen 7
            have xx8 := xx.cell 8 rfl
            have xxz8 := xx.frozen 8
            have xy0 := xy.cell 0 rfl
            have xyz0 := xy.frozen 0
            have xy1 := xy.cell 1 rfl
            have xyz1 := xy.frozen 1
            have xy2 := xy.cell 2 rfl
            have xyz2 := xy.frozen 2
            have xy3 := xy.cell 3 rfl
            have xyz3 := xy.frozen 3
            have xy4 := xy.cell 4 rfl
            have xyz4 := xy.frozen 4
            have xy5 := xy.cell 5 rfl
            have xyz5 := xy.frozen 5
            have xy6 := xy.cell 6 rfl
            have xyz6 := xy.frozen 6
            have xy7 := xy.cell 7 rfl
            have xyz7 := xy.frozen 7
            have xy8 := xy.cell 8 rfl
            have xyz8 := xy.frozen 8
            try go_wp2_with fail
            clear xx0 xxz0 xx1 xxz1 xx2 xxz2 xx3 xxz3 xx4 xxz4 xx5 xxz5 xx6 xxz6 xx7 xxz7 xx8 xxz8 xy0 xyz0 xy1 xyz1 xy2 xyz2 xy3 xyz3 xy4 xyz4 xy5 xyz5 xy6 xyz6 xy7 xyz7 xy8 xyz8
            clear hHeld
            refine hK.out _ _ ?_ (fun hHeld => ?_)
            · exact ⟨xx.cell 0 rfl, xx.cell 1 rfl, xx.cell 2 rfl, xx.cell 3 rfl, xx.cell 4 rfl, xx.cell 5 rfl, xx.cell 6 rfl, xx.cell 7 rfl, xx.cell 8 rfl, (HC.out _ hB).1, (HC.out _ hB).2.1, (HC.out _ hB).2.2⟩
            clear hK K
            try simp only [Act.put, List.getElem_toArray, List.getElem_cons_zero, List.getElem_cons_succ, List.setIfInBounds_toArray, List.set_cons_zero, List.set_cons_succ]
            refine wpAnyH_ready (rs := [7]) (by kernel_rfl) (by simp) ?_
            refine AllReadyH.cons rfl (fun K hK => ?_) (AllReadyH.nil)
            have xx0 := xx.cell 0 rfl
            have xxz0 := xx.frozen 0
            have xx1 := xx.cell 1 rfl
            have xxz1 := xx.frozen 1
            have xx2 := xx.cell 2 rfl
            have xxz2 := xx.frozen 2
            have xx3 := xx.cell 3 rfl
            have xxz3 := xx.frozen 3
            have xx4 := xx.cell 4 rfl
            have xxz4 := xx.frozen 4
            have xx5 := xx.cell 5 rfl
            have xxz5 := xx.frozen 5
            have xx6 := xx.cell 6 rfl
            have xxz6 := xx.frozen 6
            have xx7 := xx.cell 7 rfl
            have xxz7 := xx.frozen 7
            have xx8 := xx.cell 8 rfl
            have xxz8 := xx.frozen 8
            have xy0 := xy.cell 0 rfl
            have xyz0 := xy.frozen 0
            have xy1 := xy.cell 1 rfl
            have xyz1 := xy.frozen 1
            have xy2 := xy.cell 2 rfl
            have xyz2 := xy.frozen 2
            have xy3 := xy.cell 3 rfl
            have xyz3 := xy.frozen 3
            have xy4 := xy.cell 4 rfl
            have xyz4 := xy.frozen 4
            have xy5 := xy.cell 5 rfl
            have xyz5 := xy.frozen 5
            have xy6 := xy.cell 6 rfl
            have xyz6 := xy.frozen 6
            have xy7 := xy.cell 7 rfl
            have xyz7 := xy.frozen 7
            have xy8 := xy.cell 8 rfl
            have xyz8 := xy.frozen 8
            go_simp
            try go_wp2_with fail
            clear xx0 xxz0 xx1 xxz1 xx2 xxz2 xx3 xxz3 xx4 xxz4 xx5 xxz5 xx6 xxz6 xx7 xxz7 xx8 xxz8 xy0 xyz0 xy1 xyz1 xy2 xyz2 xy3 xyz3 xy4 xyz4 xy5 xyz5 xy6 xyz6 xy7 xyz7 xy8 xyz8
            replace xx : Box 43 (((((((((V6.setCell ⟨g_xy, 0, none⟩ (.string yf.b0)).setCell ⟨g_xy, 1, none⟩ (.string yf.b1)).setCell ⟨g_xy, 2, none⟩ (.int .i64 yf.e0)).setCell ⟨g_xy, 3, none⟩ (.int .i64 yf.e1)).setCell ⟨g_xy, 4, none⟩ (.int .i64 yf.lim)).setCell ⟨g_xy, 5, none⟩ (.int .i64 ya)).setCell ⟨g_xy, 6, none⟩ (.int .u64 (yl : Int))).setCell ⟨g_xy, 7, none⟩ (.bool yb)).setCell ⟨g_xy, 8, none⟩ (.int .u64 (yt : Int))) (V3.heap.size) [.string x.f.b0, .string x.f.b1, .int .i64 x.f.e0, .int .i64 x.f.e1, .int .i64 x.f.lim, .int .i64 x.acked, .int .u64 (x.last : Int), .bool x.flying, .int .u64 (x.flight : Int)] := (((((((((xx.other ne_xy_xx 0 (.string yf.b0)).other ne_xy_xx 1 (.string yf.b1)).other ne_xy_xx 2 (.int .i64 yf.e0)).other ne_xy_xx 3 (.int .i64 yf.e1)).other ne_xy_xx 4 (.int .i64 yf.lim)).other ne_xy_xx 5 (.int .i64 ya)).other ne_xy_xx 6 (.int .u64 (yl : Int))).other ne_xy_xx 7 (.bool yb)).other ne_xy_xx 8 (.int .u64 (yt : Int)))
            replace xy : Box 43 (((((((((V6.setCell ⟨g_xy, 0, none⟩ (.string yf.b0)).setCell ⟨g_xy, 1, none⟩ (.string yf.b1)).setCell ⟨g_xy, 2, none⟩ (.int .i64 yf.e0)).setCell ⟨g_xy, 3, none⟩ (.int .i64 yf.e1)).setCell ⟨g_xy, 4, none⟩ (.int .i64 yf.lim)).setCell ⟨g_xy, 5, none⟩ (.int .i64 ya)).setCell ⟨g_xy, 6, none⟩ (.int .u64 (yl : Int))).setCell ⟨g_xy, 7, none⟩ (.bool yb)).setCell ⟨g_xy, 8, none⟩ (.int .u64 (yt : Int))) (g_xy) [.string yf.b0, .string yf.b1, .int .i64 yf.e0, .int .i64 yf.e1, .int .i64 yf.lim, .int .i64 ya, .int .u64 (yl : Int), .bool yb, .int .u64 (yt : Int)] := (((((((((xy.set 0 (.string yf.b0)).set 1 (.string yf.b1)).set 2 (.int .i64 yf.e0)).set 3 (.int .i64 yf.e1)).set 4 (.int .i64 yf.lim)).set 5 (.int .i64 ya)).set 6 (.int .u64 (yl : Int))).set 7 (.bool yb)).set 8 (.int .u64 (yt : Int)))
            replace hB : Below W.heap.size W (((((((((V6.setCell ⟨g_xy, 0, none⟩ (.string yf.b0)).setCell ⟨g_xy, 1, none⟩ (.string yf.b1)).setCell ⟨g_xy, 2, none⟩ (.int .i64 yf.e0)).setCell ⟨g_xy, 3, none⟩ (.int .i64 yf.e1)).setCell ⟨g_xy, 4, none⟩ (.int .i64 yf.lim)).setCell ⟨g_xy, 5, none⟩ (.int .i64 ya)).setCell ⟨g_xy, 6, none⟩ (.int .u64 (yl : Int))).setCell ⟨g_xy, 7, none⟩ (.bool yb)).setCell ⟨g_xy, 8, none⟩ (.int .u64 (yt : Int))) := (((((((((hB.setCell le_xy _).setCell le_xy _).setCell le_xy _).setCell le_xy _).setCell le_xy _).setCell le_xy _).setCell le_xy _).setCell le_xy _).setCell le_xy _)
            generalize (((((((((V6.setCell ⟨g_xy, 0, none⟩ (.string yf.b0)).setCell ⟨g_xy, 1, none⟩ (.string yf.b1)).setCell ⟨g_xy, 2, none⟩ (.int .i64 yf.e0)).setCell ⟨g_xy, 3, none⟩ (.int .i64 yf.e1)).setCell ⟨g_xy, 4, none⟩ (.int .i64 yf.lim)).setCell ⟨g_xy, 5, none⟩ (.int .i64 ya)).setCell ⟨g_xy, 6, none⟩ (.int .u64 (yl : Int))).setCell ⟨g_xy, 7, none⟩ (.bool yb)).setCell ⟨g_xy, 8, none⟩ (.int .u64 (yt : Int))) = V7 at *
            clear hHeld
            refine hK.out _ _ ?_ (fun hHeld => ?_)
            · exact ⟨xx.cell 0 rfl, xx.cell 1 rfl, xx.cell 2 rfl, xx.cell 3 rfl, xx.cell 4 rfl, xx.cell 5 rfl, xx.cell 6 rfl, xx.cell 7 rfl, xx.cell 8 rfl, (HC.out _ hB).1, (HC.out _ hB).2.1, (HC.out _ hB).2.2⟩
            clear hK K
            try simp only [Act.put, List.getElem_toArray, List.getElem_cons_zero, List.getElem_cons_succ, List.setIfInBounds_toArray, List.set_cons_zero, List.set_cons_succ]
            refine wpAnyH_done (by kernel_rfl) ?_ _
            clear hHeld
            have xx0 := xx.cell 0 rfl
            have xxz0 := xx.frozen 0
            have xx1 := xx.cell 1 rfl
            have xxz1 := xx.frozen 1
            have xx2 := xx.cell 2 rfl
            have xxz2 := xx.frozen 2
            have xx3 := xx.cell 3 rfl
            have xxz3 := xx.frozen 3
            have xx4 := xx.cell 4 rfl
            have xxz4 := xx.frozen 4
            have xx5 := xx.cell 5 rfl
            have xxz5 := xx.frozen 5
            have xx6 := xx.cell 6 rfl
            have xxz6 := xx.frozen 6
            have xx7 := xx.cell 7 rfl
            have xxz7 := xx.frozen 7
            have xx8 := xx.cell 8 rfl
            have xxz8 := xx.frozen 8
            have xy0 := xy.cell 0 rfl
            have xyz0 := xy.frozen 0
            have xy1 := xy.cell 1 rfl
            have xyz1 := xy.frozen 1
            have xy2 := xy.cell 2 rfl
            have xyz2 := xy.frozen 2
            have xy3 := xy.cell 3 rfl
            have xyz3 := xy.frozen 3
            have xy4 := xy.cell 4 rfl
            have xyz4 := xy.frozen 4
            have xy5 := xy.cell 5 rfl
            have xyz5 := xy.frozen 5
            have xy6 := xy.cell 6 rfl
            have xyz6 := xy.frozen 6
            have xy7 := xy.cell 7 rfl
            have xyz7 := xy.frozen 7
            have xy8 := xy.cell 8 rfl
            have xyz8 := xy.frozen 8
            go_wp2_with fail
            refine (TR.out _).mono ?_
            rintro e V8 ⟨rfl, hk⟩
            clear xx0 xxz0 xx1 xxz1 xx2 xxz2 xx3 xxz3 xx4 xxz4 xx5 xxz5 xx6 xxz6 xx7 xxz7 xx8 xxz8 xy0 xyz0 xy1 xyz1 xy2 xyz2 xy3 xyz3 xy4 xyz4 xy5 xyz5 xy6 xyz6 xy7 xyz7 xy8 xyz8
            replace hB := below_seq hB hk
            replace xx := xx.seq hk
            replace xy := xy.seq hk
            clear hk
            have xs := Box.new 58 V8 [.int .i64 wb, .int .u64 (wg : Int), .int .u64 (wq : Int), .int .u64 (wd : Int)]
            have ne_xs_xx : V8.heap.size ≠ V3.heap.size := Nat.ne_of_gt xx.lt
            have ne_xs_xy : V8.heap.size ≠ g_xy := Nat.ne_of_gt xy.lt
            have le_xs : W.heap.size ≤ V8.heap.size := hB.size
            replace xx := xx.alloc (.cells #[.int .i64 wb, .int .u64 (wg : Int), .int .u64 (wq : Int), .int .u64 (wd : Int)] 58)
            replace xy := xy.alloc (.cells #[.int .i64 wb, .int .u64 (wg : Int), .int .u64 (wq : Int), .int .u64 (wd : Int)] 58)
            replace hB := hB.alloc hB.size (.cells #[.int .i64 wb, .int .u64 (wg : Int), .int .u64 (wq : Int), .int .u64 (wd : Int)] 58)
            have xx0 := xx.cell 0 rfl
            have xxz0 := xx.frozen 0
            have xx1 := xx.cell 1 rfl
            have xxz1 := xx.frozen 1
            have xx2 := xx.cell 2 rfl
            have xxz2 := xx.frozen 2
            have xx3 := xx.cell 3 rfl
            have xxz3 := xx.frozen 3
            have xx4 := xx.cell 4 rfl
            have xxz4 := xx.frozen 4
            have xx5 := xx.cell 5 rfl
            have xxz5 := xx.frozen 5
            have xx6 := xx.cell 6 rfl
            have xxz6 := xx.frozen 6
            have xx7 := xx.cell 7 rfl
            have xxz7 := xx.frozen 7
            have xx8 := xx.cell 8 rfl
            have xxz8 := xx.frozen 8
            have xy0 := xy.cell 0 rfl
            have xyz0 := xy.frozen 0
            have xy1 := xy.cell 1 rfl
            have xyz1 := xy.frozen 1
            have xy2 := xy.cell 2 rfl
            have xyz2 := xy.frozen 2
            have xy3 := xy.cell 3 rfl
            have xyz3 := xy.frozen 3
            have xy4 := xy.cell 4 rfl
            have xyz4 := xy.frozen 4
            have xy5 := xy.cell 5 rfl
            have xyz5 := xy.frozen 5
            have xy6 := xy.cell 6 rfl
            have xyz6 := xy.frozen 6
            have xy7 := xy.cell 7 rfl
            have xyz7 := xy.frozen 7
            have xy8 := xy.cell 8 rfl
            have xyz8 := xy.frozen 8
            have xs0 := xs.cell 0 rfl
            have xsz0 := xs.frozen 0
            have xs1 := xs.cell 1 rfl
            have xsz1 := xs.frozen 1
            have xs2 := xs.cell 2 rfl
            have xsz2 := xs.frozen 2
            have xs3 := xs.cell 3 rfl
            have xsz3 := xs.frozen 3
            go_wp2
            clear xx0 xxz0 xx1 xxz1 xx2 xxz2 xx3 xxz3 xx4 xxz4 xx5 xxz5 xx6 xxz6 xx7 xxz7 xx8 xxz8 xy0 xyz0 xy1 xyz1 xy2 xyz2 xy3 xyz3 xy4 xyz4 xy5 xyz5 xy6 xyz6 xy7 xyz7 xy8 xyz8 xs0 xsz0 xs1 xsz1 xs2 xsz2 xs3 xsz3
            replace xy : Box 43 ((((((((((V8.alloc (.cells #[.int .i64 wb, .int .u64 (wg : Int), .int .u64 (wq : Int), .int .u64 (wd : Int)] 58)).setCell ⟨V3.heap.size, 0, none⟩ (.string yf.b0)).setCell ⟨V3.heap.size, 1, none⟩ (.string yf.b1)).setCell ⟨V3.heap.size, 2, none⟩ (.int .i64 yf.e0)).setCell ⟨V3.heap.size, 3, none⟩ (.int .i64 yf.e1)).setCell ⟨V3.heap.size, 4, none⟩ (.int .i64 yf.lim)).setCell ⟨V3.heap.size, 5, none⟩ (.int .i64 ya)).setCell ⟨V3.heap.size, 6, none⟩ (.int .u64 (yl : Int))).setCell ⟨V3.heap.size, 7, none⟩ (.bool yb)).setCell ⟨V3.heap.size, 8, none⟩ (.int .u64 (yt : Int))) (g_xy) [.string yf.b0, .string yf.b1, .int .i64 yf.e0, .int .i64 yf.e1, .int .i64 yf.lim, .int .i64 ya, .int .u64 (yl : Int), .bool yb, .int .u64 (yt : Int)] := (((((((((xy.other (Ne.symm ne_xy_xx) 0 (.string yf.b0)).other (Ne.symm ne_xy_xx) 1 (.string yf.b1)).other (Ne.symm ne_xy_xx) 2 (.int .i64 yf.e0)).other (Ne.symm ne_xy_xx) 3 (.int .i64 yf.e1)).other (Ne.symm ne_xy_xx) 4 (.int .i64 yf.lim)).other (Ne.symm ne_xy_xx) 5 (.int .i64 ya)).other (Ne.symm ne_xy_xx) 6 (.int .u64 (yl : Int))).other (Ne.symm ne_xy_xx) 7 (.bool yb)).other (Ne.symm ne_xy_xx) 8 (.int .u64 (yt : Int)))
            replace xs : Box 58 ((((((((((V8.alloc (.cells #[.int .i64 wb, .int .u64 (wg : Int), .int .u64 (wq : Int), .int .u64 (wd : Int)] 58)).setCell ⟨V3.heap.size, 0, none⟩ (.string yf.b0)).setCell ⟨V3.heap.size, 1, none⟩ (.string yf.b1)).setCell ⟨V3.heap.size, 2, none⟩ (.int .i64 yf.e0)).setCell ⟨V3.heap.size, 3, none⟩ (.int .i64 yf.e1)).setCell ⟨V3.heap.size, 4, none⟩ (.int .i64 yf.lim)).setCell ⟨V3.heap.size, 5, none⟩ (.int .i64 ya)).setCell ⟨V3.heap.size, 6, none⟩ (.int .u64 (yl : Int))).setCell ⟨V3.heap.size, 7, none⟩ (.bool yb)).setCell ⟨V3.heap.size, 8, none⟩ (.int .u64 (yt : Int))) (V8.heap.size) [.int .i64 wb, .int .u64 (wg : Int), .int .u64 (wq : Int), .int .u64 (wd : Int)] := (((((((((xs.other (Ne.symm ne_xs_xx) 0 (.string yf.b0)).other (Ne.symm ne_xs_xx) 1 (.string yf.b1)).other (Ne.symm ne_xs_xx) 2 (.int .i64 yf.e0)).other (Ne.symm ne_xs_xx) 3 (.int .i64 yf.e1)).other (Ne.symm ne_xs_xx) 4 (.int .i64 yf.lim)).other (Ne.symm ne_xs_xx) 5 (.int .i64 ya)).other (Ne.symm ne_xs_xx) 6 (.int .u64 (yl : Int))).other (Ne.symm ne_xs_xx) 7 (.bool yb)).other (Ne.symm ne_xs_xx) 8 (.int .u64 (yt : Int)))
            replace xx : Box 43 ((((((((((V8.alloc (.cells #[.int .i64 wb, .int .u64 (wg : Int), .int .u64 (wq : Int), .int .u64 (wd : Int)] 58)).setCell ⟨V3.heap.size, 0, none⟩ (.string yf.b0)).setCell ⟨V3.heap.size, 1, none⟩ (.string yf.b1)).setCell ⟨V3.heap.size, 2, none⟩ (.int .i64 yf.e0)).setCell ⟨V3.heap.size, 3, none⟩ (.int .i64 yf.e1)).setCell ⟨V3.heap.size, 4, none⟩ (.int .i64 yf.lim)).setCell ⟨V3.heap.size, 5, none⟩ (.int .i64 ya)).setCell ⟨V3.heap.size, 6, none⟩ (.int .u64 (yl : Int))).setCell ⟨V3.heap.size, 7, none⟩ (.bool yb)).setCell ⟨V3.heap.size, 8, none⟩ (.int .u64 (yt : Int))) (V3.heap.size) [.string yf.b0, .string yf.b1, .int .i64 yf.e0, .int .i64 yf.e1, .int .i64 yf.lim, .int .i64 ya, .int .u64 (yl : Int), .bool yb, .int .u64 (yt : Int)] := (((((((((xx.set 0 (.string yf.b0)).set 1 (.string yf.b1)).set 2 (.int .i64 yf.e0)).set 3 (.int .i64 yf.e1)).set 4 (.int .i64 yf.lim)).set 5 (.int .i64 ya)).set 6 (.int .u64 (yl : Int))).set 7 (.bool yb)).set 8 (.int .u64 (yt : Int)))
            replace hB : Below W.heap.size W ((((((((((V8.alloc (.cells #[.int .i64 wb, .int .u64 (wg : Int), .int .u64 (wq : Int), .int .u64 (wd : Int)] 58)).setCell ⟨V3.heap.size, 0, none⟩ (.string yf.b0)).setCell ⟨V3.heap.size, 1, none⟩ (.string yf.b1)).setCell ⟨V3.heap.size, 2, none⟩ (.int .i64 yf.e0)).setCell ⟨V3.heap.size, 3, none⟩ (.int .i64 yf.e1)).setCell ⟨V3.heap.size, 4, none⟩ (.int .i64 yf.lim)).setCell ⟨V3.heap.size, 5, none⟩ (.int .i64 ya)).setCell ⟨V3.heap.size, 6, none⟩ (.int .u64 (yl : Int))).setCell ⟨V3.heap.size, 7, none⟩ (.bool yb)).setCell ⟨V3.heap.size, 8, none⟩ (.int .u64 (yt : Int))) := (((((((((hB.setCell le_xx _).setCell le_xx _).setCell le_xx _).setCell le_xx _).setCell le_xx _).setCell le_xx _).setCell le_xx _).setCell le_xx _).setCell le_xx _)
            generalize ((((((((((V8.alloc (.cells #[.int .i64 wb, .int .u64 (wg : Int), .int .u64 (wq : Int), .int .u64 (wd : Int)] 58)).setCell ⟨V3.heap.size, 0, none⟩ (.string yf.b0)).setCell ⟨V3.heap.size, 1, none⟩ (.string yf.b1)).setCell ⟨V3.heap.size, 2, none⟩ (.int .i64 yf.e0)).setCell ⟨V3.heap.size, 3, none⟩ (.int .i64 yf.e1)).setCell ⟨V3.heap.size, 4, none⟩ (.int .i64 yf.lim)).setCell ⟨V3.heap.size, 5, none⟩ (.int .i64 ya)).setCell ⟨V3.heap.size, 6, none⟩ (.int .u64 (yl : Int))).setCell ⟨V3.heap.size, 7, none⟩ (.bool yb)).setCell ⟨V3.heap.size, 8, none⟩ (.int .u64 (yt : Int))) = V9 at *
            have xx0 := xx.cell 0 rfl
            have xxz0 := xx.frozen 0
            have xx1 := xx.cell 1 rfl
            have xxz1 := xx.frozen 1
            have xx2 := xx.cell 2 rfl
            have xxz2 := xx.frozen 2
            have xx3 := xx.cell 3 rfl
            have xxz3 := xx.frozen 3
            have xx4 := xx.cell 4 rfl
            have xxz4 := xx.frozen 4
            have xx5 := xx.cell 5 rfl
            have xxz5 := xx.frozen 5
            have xx6 := xx.cell 6 rfl
            have xxz6 := xx.frozen 6
            have xx7 := xx.cell 7 rfl
            have xxz7 := xx.frozen 7
            have xx8 := xx.cell 8 rfl
            have xxz8 := xx.frozen 8
            have xy0 := xy.cell 0 rfl
            have xyz0 := xy.frozen 0
            have xy1 := xy.cell 1 rfl
            have xyz1 := xy.frozen 1
            have xy2 := xy.cell 2 rfl
            have xyz2 := xy.frozen 2
            have xy3 := xy.cell 3 rfl
            have xyz3 := xy.frozen 3
            have xy4 := xy.cell 4 rfl
            have xyz4 := xy.frozen 4
            have xy5 := xy.cell 5 rfl
            have xyz5 := xy.frozen 5
            have xy6 := xy.cell 6 rfl
            have xyz6 := xy.frozen 6
            have xy7 := xy.cell 7 rfl
            have xyz7 := xy.frozen 7
            have xy8 := xy.cell 8 rfl
            have xyz8 := xy.frozen 8
            have xs0 := xs.cell 0 rfl
            have xsz0 := xs.frozen 0
            have xs1 := xs.cell 1 rfl
            have xsz1 := xs.frozen 1
            have xs2 := xs.cell 2 rfl
            have xsz2 := xs.frozen 2
            have xs3 := xs.cell 3 rfl
            have xsz3 := xs.frozen 3
            clear xx0 xxz0 xx1 xxz1 xx2 xxz2 xx3 xxz3 xx4 xxz4 xx5 xxz5 xx6 xxz6 xx7 xxz7 xx8 xxz8 xy0 xyz0 xy1 xyz1 xy2 xyz2 xy3 xyz3 xy4 xyz4 xy5 xyz5 xy6 xyz6 xy7 xyz7 xy8 xyz8 xs0 xsz0 xs1 xsz1 xs2 xsz2 xs3 xsz3
            go_roundw
            case rel => exact ⟨j + 1, (Lg.mk yf ya yl yb yt), by omega, by go_num, by rw [e3.out], HY.out, hyf, xx, hB⟩
            case measure => simp [intOf]; omega
      · obtain rfl : j = l.length := by omega
        clear HL
        go_wp2
        go_ret
        exact ⟨rfl, hB⟩

theorem own : ownKnob Tryz.prog.godebug = none := by kernel_rfl

set_option maxRecDepth 100000 in
theorem lifted (os : Os) (started : os.Started) (H : Type) (enc : TypeId × Value → H) :
    ReturnsInHanded {} Tryz.checked os 5 .any (Rows.journalNumbersSpec.pre6 enc Tryz.prog Tryz.f5 Rows.journalNumbersRow.domain false) (Rows.journalNumbersSpec.post enc Tryz.prog Tryz.f5 false true false false) := by
  refine returnsInHanded_of_change (C := Tryz.checked) own started (by kernel_rfl) Tryz.func5
    (ChangeSpec.witness6 (enc := enc) (C := Tryz.checked) false ⟨#[], #[.int .u8 0, .slice none 0 0], []⟩ 8 (by kernel_rfl) (by kernel_rfl) (by kernel_rfl) (by kernel_rfl)) ?_
  intro W base args ds gs before hval hW _ _
  have hW' := hW
  obtain ⟨p, q, hA0, hV, rfl, hfz, hnd⟩ := hW
  have hA : DataW.TrodAll enc Tryz.prog W 0 (fun _ => true) true Tryz.f5.params.toList args.toList ds p := hA0
  rw [Tryz.params5] at hA hval
  obtain ⟨v0, vs0, d0, ds0, p0, q0, hargs, rfl, rfl, h0, r0⟩ := trodAll_cons hA
  obtain ⟨v1, vs1, d1, ds1, p1, q1, rfl, rfl, rfl, h1, r1⟩ := trodAll_cons r0
  obtain ⟨rfl, rfl, rfl⟩ := trodAll_nil r1
  obtain rfl : args = #[v0, v1] := by cases args; simp_all
  obtain ⟨rfl, rfl⟩ := trodVars_none hV
  obtain ⟨a0, rfl, rfl, rfl, w0⟩ := open_int Tryz.underlying5 (hval 0 5 v0 rfl rfl) h0
  obtain ⟨c0, rfl⟩ := int_u8 w0
  have k1 := h1
  obtain ⟨s1, A1, c1, rfl, hs1, ho1, hp1, hq1⟩ := open_stps (hval 1 30 v1 rfl rfl) h1
  clear hA0
  simp only [List.append_nil] at hW'
  refine (walk c0 s1 A1 c1 W hs1 ho1 hp1 hq1).mono fun e W' ⟨he, hB⟩ => ?_
  subst he
  exact ⟨_, rfl, ⟨_, _, _, [], _, [], hW', trodAll_cons_mk (shut_bool Tryz.underlying4 _) trodAll_mk0, (trodAll_cons_mk (shut_int Tryz.underlying5 w0) (trodAll_cons_mk (Below.trod Tryz.laidOut (by kernel_rfl) (of_decide_eq_true (by kernel_rfl)) k1 hB (fun x hx => by simpa using hW'.lt x (by simp [hx]))) trodAll_mk0)), rfl, hB.frame _, fun h => by cases h⟩⟩

theorem holds : Rows.JournalNumbersSaid :=
  OpenClaim.holds_of_wide 5 Tryz.f5 rfl rfl rfl rfl rfl rfl rfl ⟨rfl, rfl, rfl, rfl, rfl⟩ rfl rfl rfl rfl rfl (by kernel_rfl) Tryz.func5 (by kernel_rfl)
    (of_decide_eq_true (by kernel_rfl)) (by unfold Func.isWrapper; first | (rw [if_pos (by decide +kernel)]; kernel_rfl) | (rw [if_neg (by decide +kernel)]; exact ⟨rfl, rfl⟩))
    (fun os started H enc _ => lifted os started H enc)
end Go.Proofs.YthmpjoiifglbjaaGreat.JournalNumbers

/- What was written into a flash that is worn out stays, whatever is tried then (JournalWorn); no condition. -/
import Derived.Test.YthmpjoiifglbjaaJourLaw
import Derived.Test.YthmpjoiifglbjaaJourOpen
import Derived.Deep.RegionHeld3
import Derived.WalkLawsBesides
import Derived.WalkSpells
import Derived.IntWalk
import Derived.Lib.Hide
import Derived.Test.YthmpjoiifglbjaaBox
import Derived.Test.YthmpjoiifglbjaaFlashEq
import Derived.Test.YthmpjoiifglbjaaDeepEq
import Derived.ProofKit
import Derived.OpenShut
import Derived.ChangeMaps5
import Derived.Test.YthmpjoiifglbjaaInts
namespace Go.Proofs.Ythmpjoiifglbjaa.JournalWorn
open Go.ChangeShapes Go.WideShapes Go.ChangeAt Go.RowKit Go.ChangeMaps
set_option linter.unusedVariables false
set_option linter.unusedSimpArgs false
attribute [local go_sem] eqS2 eqI2 eqS2t eqI2t eqS2u eqI2u

set_option maxRecDepth 100000 in
set_option maxHeartbeats 3000000 in
theorem walk (n : UInt8) (l : List Stp) (lA : Option Addr) (lc : Nat) (m : List Stp) (mA : Option Addr) (mc : Nat) (W : World) (hl : RowsAt 3 stpV W lA l) (hlo : ∀ o ∈ l, o.ok) (hl1 : l.length ≤ lc) (hl2 : lc ≤ maxLen) (hm : RowsAt 3 stpV W mA m) (hmo : ∀ o ∈ m, o.ok) (hm1 : m.length ≤ mc) (hm2 : mc ≤ maxLen) :
    Calls Try.prog 6 #[.int .u8 (n.toNat : Int), .slice lA l.length lc, .slice mA m.length mc] W fun e W' => e = .returned (.bool true) ∧ Below W.heap.size W W' := by
  obtain ⟨K, hK⟩ : ∃ K : Nat, K = 1 + n.toNat % 3 := ⟨_, rfl⟩
  have hK12 : 1 ≤ K ∧ K ≤ 12 := by omega
  have k0 : wrap64 (n.toNat : Int) = (n.toNat : Int) := w64_u8 n
  have kw : (K : Int) = 1 + (n.toNat : Int) % 3 := by omega
  have hS := start_li hK12 (lim := 1) (by omega)
  have hF := newF_fit ((24 * K + 24 : Nat) : Int) 1 (by omega)
  have hL : (newF ((24 * K + 24 : Nat) : Int) 1).lim = 1 := (new_ji hK12 (lim := 1) (by omega)).2.2.1
  have TZ := Lib.hid (fun (V : World) => (show Calls Try.prog 9 #[.int .i64 (1 + (n.toNat : Int) % 3)] V fun e W' => e = .returned (.int .i64 ((24 * K + 24 : Nat) : Int)) ∧ W' = V from by have h := ref05Size (K : Int) V; rw [show sizeF (K : Int) = ((24 * K + 24 : Nat) : Int) from by unfold sizeF; rw [if_pos (by omega)]; omega] at h; rw [kw] at h; exact h))
  clear kw
  have TN := Lib.hid (fun (V : World) => flNew ((24 * K + 24 : Nat) : Int) 1 V)
  obtain ⟨F, hFF⟩ : ∃ F, newF ((24 * K + 24 : Nat) : Int) 1 = F := ⟨_, rfl⟩
  rw [hFF] at hS hF TN hL
  replace hL := Lib.hid hL
  obtain ⟨Z, hZ⟩ : ∃ Z : Int, ((24 * K + 24 : Nat) : Int) = Z := ⟨_, rfl⟩
  rw [hZ] at TZ TN
  clear hZ
  have hlh := Lib.hid hl
  clear hl
  by_cases hbig : big12 F l = true
  · have TBg := Lib.hid (fun (V : World) (h : RowsAt 3 stpV V lA l) => (show Calls Try.prog 10 #[.agg #[.string F.b0, .string F.b1, .int .i64 F.e0, .int .i64 F.e1, .int .i64 F.lim], .slice lA l.length lc] V fun e W' => e = .returned (.bool true) ∧ Below V.heap.size V W' from by have k := law12Big F l lA lc V hlo h ⟨hl1, hl2⟩; rwa [hbig] at k))
    clear hbig
    have hB : Below W.heap.size W W := Below.refl _ _
    go_enter Try.func6, Try.ntmps6
    go_wp2_with fail
    refine (TZ.out _).mono ?_
    rintro e w' ⟨rfl, hw⟩
    rw [hw]
    clear hw w'
    go_wp2_with fail
    refine (TN.out _).mono ?_
    rintro e V1 ⟨rfl, hk⟩
    replace hB := below_seq hB hk
    clear hk
    have xf := Box.new 26 V1 [.string F.b0, .string F.b1, .int .i64 F.e0, .int .i64 F.e1, .int .i64 F.lim]
    have le_xf : W.heap.size ≤ V1.heap.size := hB.size
    replace hB := hB.alloc hB.size (.cells #[.string F.b0, .string F.b1, .int .i64 F.e0, .int .i64 F.e1, .int .i64 F.lim] 26)
    have xf0 := xf.cell 0 rfl
    have xfz0 := xf.frozen 0
    have xf1 := xf.cell 1 rfl
    have xfz1 := xf.frozen 1
    have xf2 := xf.cell 2 rfl
    have xfz2 := xf.frozen 2
    have xf3 := xf.cell 3 rfl
    have xfz3 := xf.frozen 3
    have xf4 := xf.cell 4 rfl
    have xfz4 := xf.frozen 4
    go_wp2_with fail
    refine (TBg.out _ (hlh.out.seq hB)).mono ?_
    rintro e V2 ⟨rfl, hk⟩
    clear xf0 xfz0 xf1 xfz1 xf2 xfz2 xf3 xfz3 xf4 xfz4
    replace hB := below_seq hB hk
    replace xf := xf.seq hk
    clear hk
    have xf0 := xf.cell 0 rfl
    have xfz0 := xf.frozen 0
    have xf1 := xf.cell 1 rfl
    have xfz1 := xf.frozen 1
    have xf2 := xf.cell 2 rfl
    have xfz2 := xf.frozen 2
    have xf3 := xf.cell 3 rfl
    have xfz3 := xf.frozen 3
    have xf4 := xf.cell 4 rfl
    have xfz4 := xf.frozen 4
    go_wp2_with fail
    refine (shown12 _).mono ?_
    rintro e V3 ⟨rfl, hk⟩
    clear xf0 xfz0 xf1 xfz1 xf2 xfz2 xf3 xfz3 xf4 xfz4
    replace hB := below_seq hB hk
    replace xf := xf.seq hk
    clear hk
    have xf0 := xf.cell 0 rfl
    have xfz0 := xf.frozen 0
    have xf1 := xf.cell 1 rfl
    have xfz1 := xf.frozen 1
    have xf2 := xf.cell 2 rfl
    have xfz2 := xf.frozen 2
    have xf3 := xf.cell 3 rfl
    have xfz3 := xf.frozen 3
    have xf4 := xf.cell 4 rfl
    have xfz4 := xf.frozen 4
    go_wp2
    go_ret
    exact ⟨rfl, hB⟩
  · have hbig2 : big12 F l = false := by cases h : big12 F l with | false => rfl | true => exact absurd h hbig
    have TBg := Lib.hid (fun (V : World) (h : RowsAt 3 stpV V lA l) => (show Calls Try.prog 10 #[.agg #[.string F.b0, .string F.b1, .int .i64 F.e0, .int .i64 F.e1, .int .i64 F.lim], .slice lA l.length lc] V fun e W' => e = .returned (.bool false) ∧ Below V.heap.size V W' from by have k := law12Big F l lA lc V hlo h ⟨hl1, hl2⟩; rwa [hbig2] at k))
    have hl60 := big12_no hbig2
    clear hbig hbig2
    clear hFF hL hK
    have hmh := Lib.hid hm
    clear hm
    by_cases hbig : big12 F m = true
    · have TB2 := Lib.hid (fun (V : World) (h : RowsAt 3 stpV V mA m) => (show Calls Try.prog 10 #[.agg #[.string F.b0, .string F.b1, .int .i64 F.e0, .int .i64 F.e1, .int .i64 F.lim], .slice mA m.length mc] V fun e W' => e = .returned (.bool true) ∧ Below V.heap.size V W' from by have k := law12Big F m mA mc V hmo h ⟨hm1, hm2⟩; rwa [hbig] at k))
      clear hbig
      have hB : Below W.heap.size W W := Below.refl _ _
      go_enter Try.func6, Try.ntmps6
      go_wp2_with fail
      refine (TZ.out _).mono ?_
      rintro e w' ⟨rfl, hw⟩
      rw [hw]
      clear hw w'
      go_wp2_with fail
      refine (TN.out _).mono ?_
      rintro e V1 ⟨rfl, hk⟩
      replace hB := below_seq hB hk
      clear hk
      have xf := Box.new 26 V1 [.string F.b0, .string F.b1, .int .i64 F.e0, .int .i64 F.e1, .int .i64 F.lim]
      have le_xf : W.heap.size ≤ V1.heap.size := hB.size
      replace hB := hB.alloc hB.size (.cells #[.string F.b0, .string F.b1, .int .i64 F.e0, .int .i64 F.e1, .int .i64 F.lim] 26)
      have xf0 := xf.cell 0 rfl
      have xfz0 := xf.frozen 0
      have xf1 := xf.cell 1 rfl
      have xfz1 := xf.frozen 1
      have xf2 := xf.cell 2 rfl
      have xfz2 := xf.frozen 2
      have xf3 := xf.cell 3 rfl
      have xfz3 := xf.frozen 3
      have xf4 := xf.cell 4 rfl
      have xfz4 := xf.frozen 4
      go_wp2_with fail
      refine (TBg.out _ (hlh.out.seq hB)).mono ?_
      rintro e V2 ⟨rfl, hk⟩
      clear xf0 xfz0 xf1 xfz1 xf2 xfz2 xf3 xfz3 xf4 xfz4
      replace hB := below_seq hB hk
      replace xf := xf.seq hk
      clear hk
      have xf0 := xf.cell 0 rfl
      have xfz0 := xf.frozen 0
      have xf1 := xf.cell 1 rfl
      have xfz1 := xf.frozen 1
      have xf2 := xf.cell 2 rfl
      have xfz2 := xf.frozen 2
      have xf3 := xf.cell 3 rfl
      have xfz3 := xf.frozen 3
      have xf4 := xf.cell 4 rfl
      have xfz4 := xf.frozen 4
      go_wp2_with fail
      refine (TB2.out _ (hmh.out.seq hB)).mono ?_
      rintro e V3 ⟨rfl, hk⟩
      clear xf0 xfz0 xf1 xfz1 xf2 xfz2 xf3 xfz3 xf4 xfz4
      replace hB := below_seq hB hk
      replace xf := xf.seq hk
      clear hk
      have xf0 := xf.cell 0 rfl
      have xfz0 := xf.frozen 0
      have xf1 := xf.cell 1 rfl
      have xfz1 := xf.frozen 1
      have xf2 := xf.cell 2 rfl
      have xfz2 := xf.frozen 2
      have xf3 := xf.cell 3 rfl
      have xfz3 := xf.frozen 3
      have xf4 := xf.cell 4 rfl
      have xfz4 := xf.frozen 4
      go_wp2_with fail
      refine (shown12 _).mono ?_
      rintro e V4 ⟨rfl, hk⟩
      clear xf0 xfz0 xf1 xfz1 xf2 xfz2 xf3 xfz3 xf4 xfz4
      replace hB := below_seq hB hk
      replace xf := xf.seq hk
      clear hk
      have xf0 := xf.cell 0 rfl
      have xfz0 := xf.frozen 0
      have xf1 := xf.cell 1 rfl
      have xfz1 := xf.frozen 1
      have xf2 := xf.cell 2 rfl
      have xfz2 := xf.frozen 2
      have xf3 := xf.cell 3 rfl
      have xfz3 := xf.frozen 3
      have xf4 := xf.cell 4 rfl
      have xfz4 := xf.frozen 4
      go_wp2
      go_ret
      exact ⟨rfl, hB⟩
    · have hbig2 : big12 F m = false := by cases h : big12 F m with | false => rfl | true => exact absurd h hbig
      have TB2 := Lib.hid (fun (V : World) (h : RowsAt 3 stpV V mA m) => (show Calls Try.prog 10 #[.agg #[.string F.b0, .string F.b1, .int .i64 F.e0, .int .i64 F.e1, .int .i64 F.lim], .slice mA m.length mc] V fun e W' => e = .returned (.bool false) ∧ Below V.heap.size V W' from by have k := law12Big F m mA mc V hmo h ⟨hm1, hm2⟩; rwa [hbig2] at k))
      have hm60 := big12_no hbig2
      clear hbig hbig2
      obtain ⟨x, hx⟩ : ∃ x, runJ (startJ F) l = x := ⟨_, rfl⟩
      obtain ⟨HX, HXl⟩ := run_li (f := F) (c := 0) l (startJ F) hS (fun s hs => (hlo s hs).nd)
      have hxf := runJ_fit l (startJ F) hF
      rw [hx] at HX HXl hxf
      rw [Nat.zero_add] at HX
      have TRu := Lib.hid (fun (V : World) (h : RowsAt 3 stpV V lA l) => (show Calls Try.prog 14 #[.agg #[.string F.b0, .string F.b1, .int .i64 F.e0, .int .i64 F.e1, .int .i64 F.lim], .slice lA l.length lc] V fun e W' => e = .returned (.agg #[.string x.f.b0, .string x.f.b1, .int .i64 x.f.e0, .int .i64 x.f.e1, .int .i64 x.f.lim, .int .i64 x.acked, .int .u64 (x.last : Int), .bool x.flying, .int .u64 (x.flight : Int)]) ∧ Below V.heap.size V W' from by have k := own12Run F l lA lc V hF h hlo ⟨hl1, hl2⟩; rwa [hx] at k))
      clear hS
      have hs0 : Stp.ok ⟨0, -1, ⟨#[]⟩⟩ := ⟨by show 0 < _; decide, by show _ ≤ (-1 : Int) ∧ (-1 : Int) ≤ _; decide, Nat.zero_le _⟩
      have HS := Lib.hid (HX.small (by omega))
      rcases plan_wears HX.j (by omega) 0 with hE | ⟨hE, _⟩
      · obtain ⟨p1, p2, p3, p4, p5⟩ := put_ji (s := ⟨0, -1, ⟨#[]⟩⟩) HX.j (by show 0 < _; decide) hE
        have hak := p5.2 (by show ¬ (0 ≤ (-1 : Int) ∧ _); omega)
        obtain ⟨g, hp⟩ : ∃ g, putJ x.f ⟨0, -1, ⟨#[]⟩⟩ = (g, true, 0) := ⟨(putJ x.f ⟨0, -1, ⟨#[]⟩⟩).1, by rw [← hak]; refine Prod.ext rfl (Prod.ext rfl ?_); exact (put_e _ _).trans hE⟩
        have TPu := Lib.hid (fun (V : World) => (show Calls Try.prog 15 #[.agg #[.string x.f.b0, .string x.f.b1, .int .i64 x.f.e0, .int .i64 x.f.e1, .int .i64 x.f.lim], .agg #[.int .u64 0, .int .i64 (-1), .string ⟨#[]⟩]] V fun e W' => e = .returned (.tuple #[.agg #[.string g.b0, .string g.b1, .int .i64 g.e0, .int .i64 g.e1, .int .i64 g.lim], .bool true, .int .i64 0]) ∧ Below V.heap.size V W' from by have h := own12Put x.f ⟨0, -1, ⟨#[]⟩⟩ V hxf hs0; rw [hp] at h; exact h))
        clear hp hE p1 p2 p3 p4 p5 hak HX HXl hxf hx hs0
        have hB : Below W.heap.size W W := Below.refl _ _
        go_enter Try.func6, Try.ntmps6
        go_wp2_with fail
        refine (TZ.out _).mono ?_
        rintro e w' ⟨rfl, hw⟩
        rw [hw]
        clear hw w'
        go_wp2_with fail
        refine (TN.out _).mono ?_
        rintro e V1 ⟨rfl, hk⟩
        replace hB := below_seq hB hk
        clear hk
        have xf := Box.new 26 V1 [.string F.b0, .string F.b1, .int .i64 F.e0, .int .i64 F.e1, .int .i64 F.lim]
        have le_xf : W.heap.size ≤ V1.heap.size := hB.size
        replace hB := hB.alloc hB.size (.cells #[.string F.b0, .string F.b1, .int .i64 F.e0, .int .i64 F.e1, .int .i64 F.lim] 26)
        have xf0 := xf.cell 0 rfl
        have xfz0 := xf.frozen 0
        have xf1 := xf.cell 1 rfl
        have xfz1 := xf.frozen 1
        have xf2 := xf.cell 2 rfl
        have xfz2 := xf.frozen 2
        have xf3 := xf.cell 3 rfl
        have xfz3 := xf.frozen 3
        have xf4 := xf.cell 4 rfl
        have xfz4 := xf.frozen 4
        go_wp2_with fail
        refine (TBg.out _ (hlh.out.seq hB)).mono ?_
        rintro e V2 ⟨rfl, hk⟩
        clear xf0 xfz0 xf1 xfz1 xf2 xfz2 xf3 xfz3 xf4 xfz4
        replace hB := below_seq hB hk
        replace xf := xf.seq hk
        clear hk
        have xf0 := xf.cell 0 rfl
        have xfz0 := xf.frozen 0
        have xf1 := xf.cell 1 rfl
        have xfz1 := xf.frozen 1
        have xf2 := xf.cell 2 rfl
        have xfz2 := xf.frozen 2
        have xf3 := xf.cell 3 rfl
        have xfz3 := xf.frozen 3
        have xf4 := xf.cell 4 rfl
        have xfz4 := xf.frozen 4
        go_wp2_with fail
        refine (TB2.out _ (hmh.out.seq hB)).mono ?_
        rintro e V3 ⟨rfl, hk⟩
        clear xf0 xfz0 xf1 xfz1 xf2 xfz2 xf3 xfz3 xf4 xfz4
        replace hB := below_seq hB hk
        replace xf := xf.seq hk
        clear hk
        have xf0 := xf.cell 0 rfl
        have xfz0 := xf.frozen 0
        have xf1 := xf.cell 1 rfl
        have xfz1 := xf.frozen 1
        have xf2 := xf.cell 2 rfl
        have xfz2 := xf.frozen 2
        have xf3 := xf.cell 3 rfl
        have xfz3 := xf.frozen 3
        have xf4 := xf.cell 4 rfl
        have xfz4 := xf.frozen 4
        go_wp2_with fail
        refine (shown12 _).mono ?_
        rintro e V4 ⟨rfl, hk⟩
        clear xf0 xfz0 xf1 xfz1 xf2 xfz2 xf3 xfz3 xf4 xfz4
        replace hB := below_seq hB hk
        replace xf := xf.seq hk
        clear hk
        have xf0 := xf.cell 0 rfl
        have xfz0 := xf.frozen 0
        have xf1 := xf.cell 1 rfl
        have xfz1 := xf.frozen 1
        have xf2 := xf.cell 2 rfl
        have xfz2 := xf.frozen 2
        have xf3 := xf.cell 3 rfl
        have xfz3 := xf.frozen 3
        have xf4 := xf.cell 4 rfl
        have xfz4 := xf.frozen 4
        go_wp2_with fail
        refine (TRu.out _ (hlh.out.seq hB)).mono ?_
        rintro e V5 ⟨rfl, hk⟩
        clear xf0 xfz0 xf1 xfz1 xf2 xfz2 xf3 xfz3 xf4 xfz4
        replace hB := below_seq hB hk
        replace xf := xf.seq hk
        clear hk
        have xx := Box.new 33 V5 [.string x.f.b0, .string x.f.b1, .int .i64 x.f.e0, .int .i64 x.f.e1, .int .i64 x.f.lim, .int .i64 x.acked, .int .u64 (x.last : Int), .bool x.flying, .int .u64 (x.flight : Int)]
        have ne_xx_xf : V5.heap.size ≠ V1.heap.size := Nat.ne_of_gt xf.lt
        have le_xx : W.heap.size ≤ V5.heap.size := hB.size
        replace xf := xf.alloc (.cells #[.string x.f.b0, .string x.f.b1, .int .i64 x.f.e0, .int .i64 x.f.e1, .int .i64 x.f.lim, .int .i64 x.acked, .int .u64 (x.last : Int), .bool x.flying, .int .u64 (x.flight : Int)] 33)
        replace hB := hB.alloc hB.size (.cells #[.string x.f.b0, .string x.f.b1, .int .i64 x.f.e0, .int .i64 x.f.e1, .int .i64 x.f.lim, .int .i64 x.acked, .int .u64 (x.last : Int), .bool x.flying, .int .u64 (x.flight : Int)] 33)
        have xf0 := xf.cell 0 rfl
        have xfz0 := xf.frozen 0
        have xf1 := xf.cell 1 rfl
        have xfz1 := xf.frozen 1
        have xf2 := xf.cell 2 rfl
        have xfz2 := xf.frozen 2
        have xf3 := xf.cell 3 rfl
        have xfz3 := xf.frozen 3
        have xf4 := xf.cell 4 rfl
        have xfz4 := xf.frozen 4
        have xx0 := xx.cell 0 rfl
        have xxz0 := xx.frozen 0
        have xx1 := xx.cell 1 rfl
        have xxz1 := xx.frozen 1
        have xx2 := xx.cell 2 rfl
        have xxz2 := xx.frozen 2
        have xx3 := xx.cell 3 rfl
        have xxz3 := xx.frozen 3
        have xx4 := xx.cell 4 rfl
        have xxz4 := xx.frozen 4
        have xx5 := xx.cell 5 rfl
        have xxz5 := xx.frozen 5
        have xx6 := xx.cell 6 rfl
        have xxz6 := xx.frozen 6
        have xx7 := xx.cell 7 rfl
        have xxz7 := xx.frozen 7
        have xx8 := xx.cell 8 rfl
        have xxz8 := xx.frozen 8
        go_wp2_with fail
        refine (TPu.out _).mono ?_
        rintro e V6 ⟨rfl, hk⟩
        clear xf0 xfz0 xf1 xfz1 xf2 xfz2 xf3 xfz3 xf4 xfz4 xx0 xxz0 xx1 xxz1 xx2 xxz2 xx3 xxz3 xx4 xxz4 xx5 xxz5 xx6 xxz6 xx7 xxz7 xx8 xxz8
        replace hB := below_seq hB hk
        replace xf := xf.seq hk
        replace xx := xx.seq hk
        clear hk
        have xg := Box.new 26 V6 [.string g.b0, .string g.b1, .int .i64 g.e0, .int .i64 g.e1, .int .i64 g.lim]
        have ne_xg_xf : V6.heap.size ≠ V1.heap.size := Nat.ne_of_gt xf.lt
        have ne_xg_xx : V6.heap.size ≠ V5.heap.size := Nat.ne_of_gt xx.lt
        have le_xg : W.heap.size ≤ V6.heap.size := hB.size
        replace xf := xf.alloc (.cells #[.string g.b0, .string g.b1, .int .i64 g.e0, .int .i64 g.e1, .int .i64 g.lim] 26)
        replace xx := xx.alloc (.cells #[.string g.b0, .string g.b1, .int .i64 g.e0, .int .i64 g.e1, .int .i64 g.lim] 26)
        replace hB := hB.alloc hB.size (.cells #[.string g.b0, .string g.b1, .int .i64 g.e0, .int .i64 g.e1, .int .i64 g.lim] 26)
        have xf0 := xf.cell 0 rfl
        have xfz0 := xf.frozen 0
        have xf1 := xf.cell 1 rfl
        have xfz1 := xf.frozen 1
        have xf2 := xf.cell 2 rfl
        have xfz2 := xf.frozen 2
        have xf3 := xf.cell 3 rfl
        have xfz3 := xf.frozen 3
        have xf4 := xf.cell 4 rfl
        have xfz4 := xf.frozen 4
        have xx0 := xx.cell 0 rfl
        have xxz0 := xx.frozen 0
        have xx1 := xx.cell 1 rfl
        have xxz1 := xx.frozen 1
        have xx2 := xx.cell 2 rfl
        have xxz2 := xx.frozen 2
        have xx3 := xx.cell 3 rfl
        have xxz3 := xx.frozen 3
        have xx4 := xx.cell 4 rfl
        have xxz4 := xx.frozen 4
        have xx5 := xx.cell 5 rfl
        have xxz5 := xx.frozen 5
        have xx6 := xx.cell 6 rfl
        have xxz6 := xx.frozen 6
        have xx7 := xx.cell 7 rfl
        have xxz7 := xx.frozen 7
        have xx8 := xx.cell 8 rfl
        have xxz8 := xx.frozen 8
        have xg0 := xg.cell 0 rfl
        have xgz0 := xg.frozen 0
        have xg1 := xg.cell 1 rfl
        have xgz1 := xg.frozen 1
        have xg2 := xg.cell 2 rfl
        have xgz2 := xg.frozen 2
        have xg3 := xg.cell 3 rfl
        have xgz3 := xg.frozen 3
        have xg4 := xg.cell 4 rfl
        have xgz4 := xg.frozen 4
        go_wp2
        go_ret
        exact ⟨rfl, hB⟩
      · have hne : (planR x.f 0).2 ≠ 0 := by rw [hE]; decide
        have hp := put_err (s := ⟨0, -1, ⟨#[]⟩⟩) (f := x.f) hne
        rw [show (planR x.f (Stp.mk 0 (-1) ⟨#[]⟩).data).2 = 4 from hE] at hp
        have TPu := Lib.hid (fun (V : World) => (show Calls Try.prog 15 #[.agg #[.string x.f.b0, .string x.f.b1, .int .i64 x.f.e0, .int .i64 x.f.e1, .int .i64 x.f.lim], .agg #[.int .u64 0, .int .i64 (-1), .string ⟨#[]⟩]] V fun e W' => e = .returned (.tuple #[.agg #[.string x.f.b0, .string x.f.b1, .int .i64 x.f.e0, .int .i64 x.f.e1, .int .i64 x.f.lim], .bool false, .int .i64 4]) ∧ Below V.heap.size V W' from by have h := own12Put x.f ⟨0, -1, ⟨#[]⟩⟩ V hxf hs0; rw [hp] at h; exact h))
        have TP := Lib.hid (fun (s : Stp) (hs : s.ok) (V : World) => (show Calls Try.prog 12 #[.agg #[.string x.f.b0, .string x.f.b1, .int .i64 x.f.e0, .int .i64 x.f.e1, .int .i64 x.f.lim, .int .i64 x.acked, .int .u64 (x.last : Int), .bool x.flying, .int .u64 (x.flight : Int)], .agg #[.int .u64 (s.data : Int), .int .i64 s.cut, .string s.mask]] V fun e W' => e = .returned (.agg #[.string x.f.b0, .string x.f.b1, .int .i64 x.f.e0, .int .i64 x.f.e1, .int .i64 x.f.lim, .int .i64 x.acked, .int .u64 (x.last : Int), .bool x.flying, .int .u64 (x.flight : Int)]) ∧ Below V.heap.size V W' from by have h := own12Play x s V hxf HS.out hs; rw [worn_stays hne s] at h; exact h))
        have HL := Lib.hid (fun k o hk => hmh.out.hop k o hk)
        clear hp hE hne HX HXl hxf hx hs0 HS
        have hB : Below W.heap.size W W := Below.refl _ _
        go_enter Try.func6, Try.ntmps6
        go_wp2_with fail
        refine (TZ.out _).mono ?_
        rintro e w' ⟨rfl, hw⟩
        rw [hw]
        clear hw w'
        go_wp2_with fail
        refine (TN.out _).mono ?_
        rintro e V1 ⟨rfl, hk⟩
        replace hB := below_seq hB hk
        clear hk
        have xf := Box.new 26 V1 [.string F.b0, .string F.b1, .int .i64 F.e0, .int .i64 F.e1, .int .i64 F.lim]
        have le_xf : W.heap.size ≤ V1.heap.size := hB.size
        replace hB := hB.alloc hB.size (.cells #[.string F.b0, .string F.b1, .int .i64 F.e0, .int .i64 F.e1, .int .i64 F.lim] 26)
        have xf0 := xf.cell 0 rfl
        have xfz0 := xf.frozen 0
        have xf1 := xf.cell 1 rfl
        have xfz1 := xf.frozen 1
        have xf2 := xf.cell 2 rfl
        have xfz2 := xf.frozen 2
        have xf3 := xf.cell 3 rfl
        have xfz3 := xf.frozen 3
        have xf4 := xf.cell 4 rfl
        have xfz4 := xf.frozen 4
        go_wp2_with fail
        refine (TBg.out _ (hlh.out.seq hB)).mono ?_
        rintro e V2 ⟨rfl, hk⟩
        clear xf0 xfz0 xf1 xfz1 xf2 xfz2 xf3 xfz3 xf4 xfz4
        replace hB := below_seq hB hk
        replace xf := xf.seq hk
        clear hk
        have xf0 := xf.cell 0 rfl
        have xfz0 := xf.frozen 0
        have xf1 := xf.cell 1 rfl
        have xfz1 := xf.frozen 1
        have xf2 := xf.cell 2 rfl
        have xfz2 := xf.frozen 2
        have xf3 := xf.cell 3 rfl
        have xfz3 := xf.frozen 3
        have xf4 := xf.cell 4 rfl
        have xfz4 := xf.frozen 4
        go_wp2_with fail
        refine (TB2.out _ (hmh.out.seq hB)).mono ?_
        rintro e V3 ⟨rfl, hk⟩
        clear xf0 xfz0 xf1 xfz1 xf2 xfz2 xf3 xfz3 xf4 xfz4
        replace hB := below_seq hB hk
        replace xf := xf.seq hk
        clear hk
        have xf0 := xf.cell 0 rfl
        have xfz0 := xf.frozen 0
        have xf1 := xf.cell 1 rfl
        have xfz1 := xf.frozen 1
        have xf2 := xf.cell 2 rfl
        have xfz2 := xf.frozen 2
        have xf3 := xf.cell 3 rfl
        have xfz3 := xf.frozen 3
        have xf4 := xf.cell 4 rfl
        have xfz4 := xf.frozen 4
        go_wp2_with fail
        refine (shown12 _).mono ?_
        rintro e V4 ⟨rfl, hk⟩
        clear xf0 xfz0 xf1 xfz1 xf2 xfz2 xf3 xfz3 xf4 xfz4
        replace hB := below_seq hB hk
        replace xf := xf.seq hk
        clear hk
        have xf0 := xf.cell 0 rfl
        have xfz0 := xf.frozen 0
        have xf1 := xf.cell 1 rfl
        have xfz1 := xf.frozen 1
        have xf2 := xf.cell 2 rfl
        have xfz2 := xf.frozen 2
        have xf3 := xf.cell 3 rfl
        have xfz3 := xf.frozen 3
        have xf4 := xf.cell 4 rfl
        have xfz4 := xf.frozen 4
        go_wp2_with fail
        refine (TRu.out _ (hlh.out.seq hB)).mono ?_
        rintro e V5 ⟨rfl, hk⟩
        clear xf0 xfz0 xf1 xfz1 xf2 xfz2 xf3 xfz3 xf4 xfz4
        replace hB := below_seq hB hk
        replace xf := xf.seq hk
        clear hk
        have xx := Box.new 33 V5 [.string x.f.b0, .string x.f.b1, .int .i64 x.f.e0, .int .i64 x.f.e1, .int .i64 x.f.lim, .int .i64 x.acked, .int .u64 (x.last : Int), .bool x.flying, .int .u64 (x.flight : Int)]
        have ne_xx_xf : V5.heap.size ≠ V1.heap.size := Nat.ne_of_gt xf.lt
        have le_xx : W.heap.size ≤ V5.heap.size := hB.size
        replace xf := xf.alloc (.cells #[.string x.f.b0, .string x.f.b1, .int .i64 x.f.e0, .int .i64 x.f.e1, .int .i64 x.f.lim, .int .i64 x.acked, .int .u64 (x.last : Int), .bool x.flying, .int .u64 (x.flight : Int)] 33)
        replace hB := hB.alloc hB.size (.cells #[.string x.f.b0, .string x.f.b1, .int .i64 x.f.e0, .int .i64 x.f.e1, .int .i64 x.f.lim, .int .i64 x.acked, .int .u64 (x.last : Int), .bool x.flying, .int .u64 (x.flight : Int)] 33)
        have xf0 := xf.cell 0 rfl
        have xfz0 := xf.frozen 0
        have xf1 := xf.cell 1 rfl
        have xfz1 := xf.frozen 1
        have xf2 := xf.cell 2 rfl
        have xfz2 := xf.frozen 2
        have xf3 := xf.cell 3 rfl
        have xfz3 := xf.frozen 3
        have xf4 := xf.cell 4 rfl
        have xfz4 := xf.frozen 4
        have xx0 := xx.cell 0 rfl
        have xxz0 := xx.frozen 0
        have xx1 := xx.cell 1 rfl
        have xxz1 := xx.frozen 1
        have xx2 := xx.cell 2 rfl
        have xxz2 := xx.frozen 2
        have xx3 := xx.cell 3 rfl
        have xxz3 := xx.frozen 3
        have xx4 := xx.cell 4 rfl
        have xxz4 := xx.frozen 4
        have xx5 := xx.cell 5 rfl
        have xxz5 := xx.frozen 5
        have xx6 := xx.cell 6 rfl
        have xxz6 := xx.frozen 6
        have xx7 := xx.cell 7 rfl
        have xxz7 := xx.frozen 7
        have xx8 := xx.cell 8 rfl
        have xxz8 := xx.frozen 8
        go_wp2_with fail
        refine (TPu.out _).mono ?_
        rintro e V6 ⟨rfl, hk⟩
        clear xf0 xfz0 xf1 xfz1 xf2 xfz2 xf3 xfz3 xf4 xfz4 xx0 xxz0 xx1 xxz1 xx2 xxz2 xx3 xxz3 xx4 xxz4 xx5 xxz5 xx6 xxz6 xx7 xxz7 xx8 xxz8
        replace hB := below_seq hB hk
        replace xf := xf.seq hk
        replace xx := xx.seq hk
        clear hk
        have xg := Box.new 26 V6 [.string x.f.b0, .string x.f.b1, .int .i64 x.f.e0, .int .i64 x.f.e1, .int .i64 x.f.lim]
        have ne_xg_xf : V6.heap.size ≠ V1.heap.size := Nat.ne_of_gt xf.lt
        have ne_xg_xx : V6.heap.size ≠ V5.heap.size := Nat.ne_of_gt xx.lt
        have le_xg : W.heap.size ≤ V6.heap.size := hB.size
        replace xf := xf.alloc (.cells #[.string x.f.b0, .string x.f.b1, .int .i64 x.f.e0, .int .i64 x.f.e1, .int .i64 x.f.lim] 26)
        replace xx := xx.alloc (.cells #[.string x.f.b0, .string x.f.b1, .int .i64 x.f.e0, .int .i64 x.f.e1, .int .i64 x.f.lim] 26)
        replace hB := hB.alloc hB.size (.cells #[.string x.f.b0, .string x.f.b1, .int .i64 x.f.e0, .int .i64 x.f.e1, .int .i64 x.f.lim] 26)
        have xf0 := xf.cell 0 rfl
        have xfz0 := xf.frozen 0
        have xf1 := xf.cell 1 rfl
        have xfz1 := xf.frozen 1
        have xf2 := xf.cell 2 rfl
        have xfz2 := xf.frozen 2
        have xf3 := xf.cell 3 rfl
        have xfz3 := xf.frozen 3
        have xf4 := xf.cell 4 rfl
        have xfz4 := xf.frozen 4
        have xx0 := xx.cell 0 rfl
        have xxz0 := xx.frozen 0
        have xx1 := xx.cell 1 rfl
        have xxz1 := xx.frozen 1
        have xx2 := xx.cell 2 rfl
        have xxz2 := xx.frozen 2
        have xx3 := xx.cell 3 rfl
        have xxz3 := xx.frozen 3
        have xx4 := xx.cell 4 rfl
        have xxz4 := xx.frozen 4
        have xx5 := xx.cell 5 rfl
        have xxz5 := xx.frozen 5
        have xx6 := xx.cell 6 rfl
        have xxz6 := xx.frozen 6
        have xx7 := xx.cell 7 rfl
        have xxz7 := xx.frozen 7
        have xx8 := xx.cell 8 rfl
        have xxz8 := xx.frozen 8
        have xg0 := xg.cell 0 rfl
        have xgz0 := xg.frozen 0
        have xg1 := xg.cell 1 rfl
        have xgz1 := xg.frozen 1
        have xg2 := xg.cell 2 rfl
        have xgz2 := xg.frozen 2
        have xg3 := xg.cell 3 rfl
        have xgz3 := xg.frozen 3
        have xg4 := xg.cell 4 rfl
        have xgz4 := xg.frozen 4
        have u0 := xx.cell 0 rfl
        have u1 := xx.cell 1 rfl
        have u2 := xx.cell 2 rfl
        have u3 := xx.cell 3 rfl
        have u4 := xx.cell 4 rfl
        have u5 := xx.cell 5 rfl
        have u6 := xx.cell 6 rfl
        have u7 := xx.cell 7 rfl
        have u8 := xx.cell 8 rfl
        clear xf0 xfz0 xf1 xfz1 xf2 xfz2 xf3 xfz3 xf4 xfz4 xx0 xxz0 xx1 xxz1 xx2 xxz2 xx3 xxz3 xx4 xxz4 xx5 xxz5 xx6 xxz6 xx7 xxz7 xx8 xxz8 xg0 xgz0 xg1 xgz1 xg2 xgz2 xg3 xgz3 xg4 xgz4
        have xy : Box 33 ((V6.alloc (.cells #[.string x.f.b0, .string x.f.b1, .int .i64 x.f.e0, .int .i64 x.f.e1, .int .i64 x.f.lim] 26)).alloc (.cells #[.string x.f.b0, .string x.f.b1, .int .i64 x.f.e0, .int .i64 x.f.e1, .int .i64 x.f.lim, .int .i64 x.acked, .int .u64 (x.last : Int), .bool x.flying, .int .u64 (x.flight : Int)] 33)) (V6.heap.size + 1) [.string x.f.b0, .string x.f.b1, .int .i64 x.f.e0, .int .i64 x.f.e1, .int .i64 x.f.lim, .int .i64 x.acked, .int .u64 (x.last : Int), .bool x.flying, .int .u64 (x.flight : Int)] := by have h := Box.new 33 (V6.alloc (.cells #[.string x.f.b0, .string x.f.b1, .int .i64 x.f.e0, .int .i64 x.f.e1, .int .i64 x.f.lim] 26)) [.string x.f.b0, .string x.f.b1, .int .i64 x.f.e0, .int .i64 x.f.e1, .int .i64 x.f.lim, .int .i64 x.acked, .int .u64 (x.last : Int), .bool x.flying, .int .u64 (x.flight : Int)]; rwa [World.size_alloc] at h
        have ne_xy_xf : V6.heap.size + 1 ≠ V1.heap.size := by have h := xf.lt; rw [World.size_alloc] at h; omega
        have ne_xy_xx : V6.heap.size + 1 ≠ V5.heap.size := by have h := xx.lt; rw [World.size_alloc] at h; omega
        have ne_xy_xg : V6.heap.size + 1 ≠ V6.heap.size := by have h := xg.lt; rw [World.size_alloc] at h; omega
        have le_xy : W.heap.size ≤ V6.heap.size + 1 := by have h := hB.size; rw [World.size_alloc] at h; exact h
        replace xf := xf.alloc (.cells #[.string x.f.b0, .string x.f.b1, .int .i64 x.f.e0, .int .i64 x.f.e1, .int .i64 x.f.lim, .int .i64 x.acked, .int .u64 (x.last : Int), .bool x.flying, .int .u64 (x.flight : Int)] 33)
        replace xx := xx.alloc (.cells #[.string x.f.b0, .string x.f.b1, .int .i64 x.f.e0, .int .i64 x.f.e1, .int .i64 x.f.lim, .int .i64 x.acked, .int .u64 (x.last : Int), .bool x.flying, .int .u64 (x.flight : Int)] 33)
        replace xg := xg.alloc (.cells #[.string x.f.b0, .string x.f.b1, .int .i64 x.f.e0, .int .i64 x.f.e1, .int .i64 x.f.lim, .int .i64 x.acked, .int .u64 (x.last : Int), .bool x.flying, .int .u64 (x.flight : Int)] 33)
        replace hB := hB.alloc hB.size (.cells #[.string x.f.b0, .string x.f.b1, .int .i64 x.f.e0, .int .i64 x.f.e1, .int .i64 x.f.lim, .int .i64 x.acked, .int .u64 (x.last : Int), .bool x.flying, .int .u64 (x.flight : Int)] 33)
        have xf0 := xf.cell 0 rfl
        have xfz0 := xf.frozen 0
        have xf1 := xf.cell 1 rfl
        have xfz1 := xf.frozen 1
        have xf2 := xf.cell 2 rfl
        have xfz2 := xf.frozen 2
        have xf3 := xf.cell 3 rfl
        have xfz3 := xf.frozen 3
        have xf4 := xf.cell 4 rfl
        have xfz4 := xf.frozen 4
        have xx0 := xx.cell 0 rfl
        have xxz0 := xx.frozen 0
        have xx1 := xx.cell 1 rfl
        have xxz1 := xx.frozen 1
        have xx2 := xx.cell 2 rfl
        have xxz2 := xx.frozen 2
        have xx3 := xx.cell 3 rfl
        have xxz3 := xx.frozen 3
        have xx4 := xx.cell 4 rfl
        have xxz4 := xx.frozen 4
        have xx5 := xx.cell 5 rfl
        have xxz5 := xx.frozen 5
        have xx6 := xx.cell 6 rfl
        have xxz6 := xx.frozen 6
        have xx7 := xx.cell 7 rfl
        have xxz7 := xx.frozen 7
        have xx8 := xx.cell 8 rfl
        have xxz8 := xx.frozen 8
        have xg0 := xg.cell 0 rfl
        have xgz0 := xg.frozen 0
        have xg1 := xg.cell 1 rfl
        have xgz1 := xg.frozen 1
        have xg2 := xg.cell 2 rfl
        have xgz2 := xg.frozen 2
        have xg3 := xg.cell 3 rfl
        have xgz3 := xg.frozen 3
        have xg4 := xg.cell 4 rfl
        have xgz4 := xg.frozen 4
        have xy0 := xy.cell 0 rfl
        have xyz0 := xy.frozen 0
        have xy1 := xy.cell 1 rfl
        have xyz1 := xy.frozen 1
        have xy2 := xy.cell 2 rfl
        have xyz2 := xy.frozen 2
        have xy3 := xy.cell 3 rfl
        have xyz3 := xy.frozen 3
        have xy4 := xy.cell 4 rfl
        have xyz4 := xy.frozen 4
        have xy5 := xy.cell 5 rfl
        have xyz5 := xy.frozen 5
        have xy6 := xy.cell 6 rfl
        have xyz6 := xy.frozen 6
        have xy7 := xy.cell 7 rfl
        have xyz7 := xy.frozen 7
        have xy8 := xy.cell 8 rfl
        have xyz8 := xy.frozen 8
        go_wp2
        clear xf0 xfz0 xf1 xfz1 xf2 xfz2 xf3 xfz3 xf4 xfz4 xx0 xxz0 xx1 xxz1 xx2 xxz2 xx3 xxz3 xx4 xxz4 xx5 xxz5 xx6 xxz6 xx7 xxz7 xx8 xxz8 xg0 xgz0 xg1 xgz1 xg2 xgz2 xg3 xgz3 xg4 xgz4 xy0 xyz0 xy1 xyz1 xy2 xyz2 xy3 xyz3 xy4 xyz4 xy5 xyz5 xy6 xyz6 xy7 xyz7 xy8 xyz8
        clear u0 u1 u2 u3 u4 u5 u6 u7 u8
        go_loopw [13] (fun i w => ∃ j : Nat, j ≤ m.length ∧ i = .int .i64 j ∧ Box 33 w (V5.heap.size) [.string x.f.b0, .string x.f.b1, .int .i64 x.f.e0, .int .i64 x.f.e1, .int .i64 x.f.lim, .int .i64 x.acked, .int .u64 (x.last : Int), .bool x.flying, .int .u64 (x.flight : Int)] ∧ Box 33 w (V6.heap.size + 1) [.string x.f.b0, .string x.f.b1, .int .i64 x.f.e0, .int .i64 x.f.e1, .int .i64 x.f.lim, .int .i64 x.acked, .int .u64 (x.last : Int), .bool x.flying, .int .u64 (x.flight : Int)] ∧ Below W.heap.size W w) (fun i _ => m.length - (intOf i).toNat)
        case atStart => exact ⟨0, Nat.zero_le _, rfl, xx, xy, hB⟩
        case round =>
          clear xx xy xf xg hB
          obtain ⟨j, hj, rfl, xx, xy, hB⟩ := hrel
          by_cases hlt : j < m.length
          · obtain ⟨s, hjs⟩ : ∃ s, m[j]? = some s := ⟨_, List.getElem?_eq_getElem hlt⟩
            obtain ⟨g, off, rfl, HC0⟩ := HL.out j s hjs
            have HC := Lib.hid (show ∀ V : World, Below W.heap.size W V → V.cell? ⟨g, off + j * 3, none⟩ = some (.int .u64 (s.data : Int)) ∧ V.cell? ⟨g, off + j * 3 + 1, none⟩ = some (.int .i64 s.cut) ∧ V.cell? ⟨g, off + j * 3 + 2, none⟩ = some (.string s.mask) from fun V h => ⟨HC0 V h 0 (by decide), HC0 V h 1 (by decide), HC0 V h 2 (by decide)⟩)
            clear HC0
            have hs := hmo s (List.mem_of_getElem? hjs)
            have j0 : (0 : Int) ≤ (j : Int) := by omega
            have j1 : (j : Int) < (m.length : Int) := by omega
            clear hjs HL
            go_wp2_with fail
            replace hB := hB.drew
            replace xx := xx.drew
            replace xy := xy.drew
            refine wp_region_held_drew (S := fun w' => w'.cell? ⟨g, off + j * 3, none⟩ = some (.int .u64 (s.data : Int)) ∧ w'.cell? ⟨g, off + j * 3 + 1, none⟩ = some (.int .i64 s.cut) ∧ w'.cell? ⟨g, off + j * 3 + 2, none⟩ = some (.string s.mask)) (by kernel_rfl) ?_ (fun hHeld => ?_)
            · exact ⟨(HC.out _ hB).1, (HC.out _ hB).2.1, (HC.out _ hB).2.2⟩
            generalize wr.drew = V7 at *
            refine wpAnyH_take (i := 1) (v := ?_) rfl (by kernel_rfl) (by kernel_rfl) (by kernel_rfl) (fun _ _ _ h => h) (Or.inl ⟨by rfl, ?_⟩) (by assumption) ?_
            rotate_left
            · intro w hSw; (try dsimp only at hSw); go_simp; try with_reducible rfl
            try simp only [Act.put, List.getElem_toArray, List.getElem_cons_zero, List.getElem_cons_succ, List.setIfInBounds_toArray, List.set_cons_zero, List.set_cons_succ]
            refine wpAnyH_take (i := 2) (v := ?_) rfl (by kernel_rfl) (by kernel_rfl) (by kernel_rfl) (fun _ _ _ h => h) (Or.inl ⟨by rfl, ?_⟩) (by assumption) ?_
            rotate_left
            · intro w hSw; (try dsimp only at hSw); go_simp; try with_reducible rfl
            try simp only [Act.put, List.getElem_toArray, List.getElem_cons_zero, List.getElem_cons_succ, List.setIfInBounds_toArray, List.set_cons_zero, List.set_cons_succ]
            refine wpAnyH_take (i := 3) (v := ?_) rfl (by kernel_rfl) (by kernel_rfl) (by kernel_rfl) (fun _ _ _ h => h) (Or.inl ⟨by rfl, ?_⟩) (by assumption) ?_
            rotate_left
            · intro w hSw; (try dsimp only at hSw); go_simp; try with_reducible rfl
            try simp only [Act.put, List.getElem_toArray, List.getElem_cons_zero, List.getElem_cons_succ, List.setIfInBounds_toArray, List.set_cons_zero, List.set_cons_succ]
            refine wpAnyH_take (i := 4) (v := ?_) rfl (by kernel_rfl) (by kernel_rfl) (by kernel_rfl) (fun _ _ _ h => h) (Or.inl ⟨by rfl, ?_⟩) (by assumption) ?_
            rotate_left
            · intro w hSw; (try dsimp only at hSw); go_simp; try with_reducible rfl
            try simp only [Act.put, List.getElem_toArray, List.getElem_cons_zero, List.getElem_cons_succ, List.setIfInBounds_toArray, List.set_cons_zero, List.set_cons_succ]
            refine wpAnyH_ready (rs := [0]) (by kernel_rfl) (by simp) ?_
            refine AllReadyH.cons rfl (fun K hK => ?_) AllReadyH.nil
            have xx0 := xx.cell 0 rfl
            have xxz0 := xx.frozen 0
            have xx1 := xx.cell 1 rfl
            have xxz1 := xx.frozen 1
            have xx2 := xx.cell 2 rfl
            have xxz2 := xx.frozen 2
            have xx3 := xx.cell 3 rfl
            have xxz3 := xx.frozen 3
            have xx4 := xx.cell 4 rfl
            have xxz4 := xx.frozen 4
            have xx5 := xx.cell 5 rfl
            have xxz5 := xx.frozen 5
            have xx6 := xx.cell 6 rfl
            have xxz6 := xx.frozen 6
            have xx7 := xx.cell 7 rfl
            have xxz7 := xx.frozen 7
            have xx8 := xx.cell 8 rfl
            have xxz8 := xx.frozen 8
            have xy0 := xy.cell 0 rfl
            have xyz0 := xy.frozen 0
            have xy1 := xy.cell 1 rfl
            have xyz1 := xy.frozen 1
            have xy2 := xy.cell 2 rfl
            have xyz2 := xy.frozen 2
            have xy3 := xy.cell 3 rfl
            have xyz3 := xy.frozen 3
            have xy4 := xy.cell 4 rfl
            have xyz4 := xy.frozen 4
            have xy5 := xy.cell 5 rfl
            have xyz5 := xy.frozen 5
            have xy6 := xy.cell 6 rfl
            have xyz6 := xy.frozen 6
            have xy7 := xy.cell 7 rfl
            have xyz7 := xy.frozen 7
            have xy8 := xy.cell 8 rfl
            have xyz8 := xy.frozen 8
            go_simp
            try go_wp2_with fail
            clear xx0 xxz0 xx1 xxz1 xx2 xxz2 xx3 xxz3 xx4 xxz4 xx5 xxz5 xx6 xxz6 xx7 xxz7 xx8 xxz8 xy0 xyz0 xy1 xyz1 xy2 xyz2 xy3 xyz3 xy4 xyz4 xy5 xyz5 xy6 xyz6 xy7 xyz7 xy8 xyz8
            clear hHeld
            refine hK.out _ _ ?_ (fun hHeld => ?_)
            · exact ⟨(HC.out _ hB).1, (HC.out _ hB).2.1, (HC.out _ hB).2.2⟩
            clear hK K
            try simp only [Act.put, List.getElem_toArray, List.getElem_cons_zero, List.getElem_cons_succ, List.setIfInBounds_toArray, List.set_cons_zero, List.set_cons_succ]
            refine wpAnyH_ready (rs := [5]) (by kernel_rfl) (by simp) ?_
            refine AllReadyH.cons rfl (fun K hK => ?_) AllReadyH.nil
            have xx0 := xx.cell 0 rfl
            have xxz0 := xx.frozen 0
            have xx1 := xx.cell 1 rfl
            have xxz1 := xx.frozen 1
            have xx2 := xx.cell 2 rfl
            have xxz2 := xx.frozen 2
            have xx3 := xx.cell 3 rfl
            have xxz3 := xx.frozen 3
            have xx4 := xx.cell 4 rfl
            have xxz4 := xx.frozen 4
            have xx5 := xx.cell 5 rfl
            have xxz5 := xx.frozen 5
            have xx6 := xx.cell 6 rfl
            have xxz6 := xx.frozen 6
            have xx7 := xx.cell 7 rfl
            have xxz7 := xx.frozen 7
            have xx8 := xx.cell 8 rfl
            have xxz8 := xx.frozen 8
            have xy0 := xy.cell 0 rfl
            have xyz0 := xy.frozen 0
            have xy1 := xy.cell 1 rfl
            have xyz1 := xy.frozen 1
            have xy2 := xy.cell 2 rfl
            have xyz2 := xy.frozen 2
            have xy3 := xy.cell 3 rfl
            have xyz3 := xy.frozen 3
            have xy4 := xy.cell 4 rfl
            have xyz4 := xy.frozen 4
            have xy5 := xy.cell 5 rfl
            have xyz5 := xy.frozen 5
            have xy6 := xy.cell 6 rfl
            have xyz6 := xy.frozen 6
            have xy7 := xy.cell 7 rfl
            have xyz7 := xy.frozen 7
            have xy8 := xy.cell 8 rfl
            have xyz8 := xy.frozen 8
            go_simp
            refine (TP.out s hs _).mono ?_
            rintro e V8 ⟨rfl, hk⟩
            clear xx0 xxz0 xx1 xxz1 xx2 xxz2 xx3 xxz3 xx4 xxz4 xx5 xxz5 xx6 xxz6 xx7 xxz7 xx8 xxz8 xy0 xyz0 xy1 xyz1 xy2 xyz2 xy3 xyz3 xy4 xyz4 xy5 xyz5 xy6 xyz6 xy7 xyz7 xy8 xyz8
            replace hB := below_seq hB hk
            replace xx := xx.seq hk
            replace xy := xy.seq hk
            clear hk
            have xx0 := xx.cell 0 rfl
            have xxz0 := xx.frozen 0
            have xx1 := xx.cell 1 rfl
            have xxz1 := xx.frozen 1
            have xx2 := xx.cell 2 rfl
            have xxz2 := xx.frozen 2
            have xx3 := xx.cell 3 rfl
            have xxz3 := xx.frozen 3
            have xx4 := xx.cell 4 rfl
            have xxz4 := xx.frozen 4
            have xx5 := xx.cell 5 rfl
            have xxz5 := xx.frozen 5
            have xx6 := xx.cell 6 rfl
            have xxz6 := xx.frozen 6
            have xx7 := xx.cell 7 rfl
            have xxz7 := xx.frozen 7
            have xx8 := xx.cell 8 rfl
            have xxz8 := xx.frozen 8
            have xy0 := xy.cell 0 rfl
            have xyz0 := xy.frozen 0
            have xy1 := xy.cell 1 rfl
            have xyz1 := xy.frozen 1
            have xy2 := xy.cell 2 rfl
            have xyz2 := xy.frozen 2
            have xy3 := xy.cell 3 rfl
            have xyz3 := xy.frozen 3
            have xy4 := xy.cell 4 rfl
            have xyz4 := xy.frozen 4
            have xy5 := xy.cell 5 rfl
            have xyz5 := xy.frozen 5
            have xy6 := xy.cell 6 rfl
            have xyz6 := xy.frozen 6
            have xy7 := xy.cell 7 rfl
            have xyz7 := xy.frozen 7
            have xy8 := xy.cell 8 rfl
            have xyz8 := xy.frozen 8
            try go_wp2_with fail
            clear xx0 xxz0 xx1 xxz1 xx2 xxz2 xx3 xxz3 xx4 xxz4 xx5 xxz5 xx6 xxz6 xx7 xxz7 xx8 xxz8 xy0 xyz0 xy1 xyz1 xy2 xyz2 xy3 xyz3 xy4 xyz4 xy5 xyz5 xy6 xyz6 xy7 xyz7 xy8 xyz8
            clear hHeld
            refine hK.out _ _ ?_ (fun hHeld => ?_)
            · exact ⟨(HC.out _ hB).1, (HC.out _ hB).2.1, (HC.out _ hB).2.2⟩
            clear hK K
            try simp only [Act.put, List.getElem_toArray, List.getElem_cons_zero, List.getElem_cons_succ, List.setIfInBounds_toArray, List.set_cons_zero, List.set_cons_succ]
            refine wpAnyH_ready (rs := [6]) (by kernel_rfl) (by simp) ?_
            refine AllReadyH.cons rfl (fun K hK => ?_) AllReadyH.nil
            have xx0 := xx.cell 0 rfl
            have xxz0 := xx.frozen 0
            have xx1 := xx.cell 1 rfl
            have xxz1 := xx.frozen 1
            have xx2 := xx.cell 2 rfl
            have xxz2 := xx.frozen 2
            have xx3 := xx.cell 3 rfl
            have xxz3 := xx.frozen 3
            have xx4 := xx.cell 4 rfl
            have xxz4 := xx.frozen 4
            have xx5 := xx.cell 5 rfl
            have xxz5 := xx.frozen 5
            have xx6 := xx.cell 6 rfl
            have xxz6 := xx.frozen 6
            have xx7 := xx.cell 7 rfl
            have xxz7 := xx.frozen 7
            have xx8 := xx.cell 8 rfl
            have xxz8 := xx.frozen 8
            have xy0 := xy.cell 0 rfl
            have xyz0 := xy.frozen 0
            have xy1 := xy.cell 1 rfl
            have xyz1 := xy.frozen 1
            have xy2 := xy.cell 2 rfl
            have xyz2 := xy.frozen 2
            have xy3 := xy.cell 3 rfl
            have xyz3 := xy.frozen 3
            have xy4 := xy.cell 4 rfl
            have xyz4 := xy.frozen 4
            have xy5 := xy.cell 5 rfl
            have xyz5 := xy.frozen 5
            have xy6 := xy.cell 6 rfl
            have xyz6 := xy.frozen 6
            have xy7 := xy.cell 7 rfl
            have xyz7 := xy.frozen 7
            have xy8 := xy.cell 8 rfl
            have xyz8 := xy.frozen 8
            go_simp
            try go_wp2_with fail
            clear xx0 xxz0 xx1 xxz1 xx2 xxz2 xx3 xxz3 xx4 xxz4 xx5 xxz5 xx6 xxz6 xx7 xxz7 xx8 xxz8 xy0 xyz0 xy1 xyz1 xy2 xyz2 xy3 xyz3 xy4 xyz4 xy5 xyz5 xy6 xyz6 xy7 xyz7 xy8 xyz8
            replace xx : Box 33 (((((((((V8.setCell ⟨V6.heap.size + 1, 0, none⟩ (.string x.f.b0)).setCell ⟨V6.heap.size + 1, 1, none⟩ (.string x.f.b1)).setCell ⟨V6.heap.size + 1, 2, none⟩ (.int .i64 x.f.e0)).setCell ⟨V6.heap.size + 1, 3, none⟩ (.int .i64 x.f.e1)).setCell ⟨V6.heap.size + 1, 4, none⟩ (.int .i64 x.f.lim)).setCell ⟨V6.heap.size + 1, 5, none⟩ (.int .i64 x.acked)).setCell ⟨V6.heap.size + 1, 6, none⟩ (.int .u64 (x.last : Int))).setCell ⟨V6.heap.size + 1, 7, none⟩ (.bool x.flying)).setCell ⟨V6.heap.size + 1, 8, none⟩ (.int .u64 (x.flight : Int))) (V5.heap.size) [.string x.f.b0, .string x.f.b1, .int .i64 x.f.e0, .int .i64 x.f.e1, .int .i64 x.f.lim, .int .i64 x.acked, .int .u64 (x.last : Int), .bool x.flying, .int .u64 (x.flight : Int)] := (((((((((xx.other ne_xy_xx 0 (.string x.f.b0)).other ne_xy_xx 1 (.string x.f.b1)).other ne_xy_xx 2 (.int .i64 x.f.e0)).other ne_xy_xx 3 (.int .i64 x.f.e1)).other ne_xy_xx 4 (.int .i64 x.f.lim)).other ne_xy_xx 5 (.int .i64 x.acked)).other ne_xy_xx 6 (.int .u64 (x.last : Int))).other ne_xy_xx 7 (.bool x.flying)).other ne_xy_xx 8 (.int .u64 (x.flight : Int)))
            replace xy : Box 33 (((((((((V8.setCell ⟨V6.heap.size + 1, 0, none⟩ (.string x.f.b0)).setCell ⟨V6.heap.size + 1, 1, none⟩ (.string x.f.b1)).setCell ⟨V6.heap.size + 1, 2, none⟩ (.int .i64 x.f.e0)).setCell ⟨V6.heap.size + 1, 3, none⟩ (.int .i64 x.f.e1)).setCell ⟨V6.heap.size + 1, 4, none⟩ (.int .i64 x.f.lim)).setCell ⟨V6.heap.size + 1, 5, none⟩ (.int .i64 x.acked)).setCell ⟨V6.heap.size + 1, 6, none⟩ (.int .u64 (x.last : Int))).setCell ⟨V6.heap.size + 1, 7, none⟩ (.bool x.flying)).setCell ⟨V6.heap.size + 1, 8, none⟩ (.int .u64 (x.flight : Int))) (V6.heap.size + 1) [.string x.f.b0, .string x.f.b1, .int .i64 x.f.e0, .int .i64 x.f.e1, .int .i64 x.f.lim, .int .i64 x.acked, .int .u64 (x.last : Int), .bool x.flying, .int .u64 (x.flight : Int)] := (((((((((xy.set 0 (.string x.f.b0)).set 1 (.string x.f.b1)).set 2 (.int .i64 x.f.e0)).set 3 (.int .i64 x.f.e1)).set 4 (.int .i64 x.f.lim)).set 5 (.int .i64 x.acked)).set 6 (.int .u64 (x.last : Int))).set 7 (.bool x.flying)).set 8 (.int .u64 (x.flight : Int)))
            replace hB : Below W.heap.size W (((((((((V8.setCell ⟨V6.heap.size + 1, 0, none⟩ (.string x.f.b0)).setCell ⟨V6.heap.size + 1, 1, none⟩ (.string x.f.b1)).setCell ⟨V6.heap.size + 1, 2, none⟩ (.int .i64 x.f.e0)).setCell ⟨V6.heap.size + 1, 3, none⟩ (.int .i64 x.f.e1)).setCell ⟨V6.heap.size + 1, 4, none⟩ (.int .i64 x.f.lim)).setCell ⟨V6.heap.size + 1, 5, none⟩ (.int .i64 x.acked)).setCell ⟨V6.heap.size + 1, 6, none⟩ (.int .u64 (x.last : Int))).setCell ⟨V6.heap.size + 1, 7, none⟩ (.bool x.flying)).setCell ⟨V6.heap.size + 1, 8, none⟩ (.int .u64 (x.flight : Int))) := (((((((((hB.setCell le_xy _).setCell le_xy _).setCell le_xy _).setCell le_xy _).setCell le_xy _).setCell le_xy _).setCell le_xy _).setCell le_xy _).setCell le_xy _)
            generalize (((((((((V8.setCell ⟨V6.heap.size + 1, 0, none⟩ (.string x.f.b0)).setCell ⟨V6.heap.size + 1, 1, none⟩ (.string x.f.b1)).setCell ⟨V6.heap.size + 1, 2, none⟩ (.int .i64 x.f.e0)).setCell ⟨V6.heap.size + 1, 3, none⟩ (.int .i64 x.f.e1)).setCell ⟨V6.heap.size + 1, 4, none⟩ (.int .i64 x.f.lim)).setCell ⟨V6.heap.size + 1, 5, none⟩ (.int .i64 x.acked)).setCell ⟨V6.heap.size + 1, 6, none⟩ (.int .u64 (x.last : Int))).setCell ⟨V6.heap.size + 1, 7, none⟩ (.bool x.flying)).setCell ⟨V6.heap.size + 1, 8, none⟩ (.int .u64 (x.flight : Int))) = V9 at *
            clear hHeld
            refine hK.out _ _ ?_ (fun hHeld => ?_)
            · exact ⟨(HC.out _ hB).1, (HC.out _ hB).2.1, (HC.out _ hB).2.2⟩
            clear hK K
            try simp only [Act.put, List.getElem_toArray, List.getElem_cons_zero, List.getElem_cons_succ, List.setIfInBounds_toArray, List.set_cons_zero, List.set_cons_succ]
            refine wpAnyH_done (by kernel_rfl) ?_ _
            clear hHeld
            have xx0 := xx.cell 0 rfl
            have xxz0 := xx.frozen 0
            have xx1 := xx.cell 1 rfl
            have xxz1 := xx.frozen 1
            have xx2 := xx.cell 2 rfl
            have xxz2 := xx.frozen 2
            have xx3 := xx.cell 3 rfl
            have xxz3 := xx.frozen 3
            have xx4 := xx.cell 4 rfl
            have xxz4 := xx.frozen 4
            have xx5 := xx.cell 5 rfl
            have xxz5 := xx.frozen 5
            have xx6 := xx.cell 6 rfl
            have xxz6 := xx.frozen 6
            have xx7 := xx.cell 7 rfl
            have xxz7 := xx.frozen 7
            have xx8 := xx.cell 8 rfl
            have xxz8 := xx.frozen 8
            have xy0 := xy.cell 0 rfl
            have xyz0 := xy.frozen 0
            have xy1 := xy.cell 1 rfl
            have xyz1 := xy.frozen 1
            have xy2 := xy.cell 2 rfl
            have xyz2 := xy.frozen 2
            have xy3 := xy.cell 3 rfl
            have xyz3 := xy.frozen 3
            have xy4 := xy.cell 4 rfl
            have xyz4 := xy.frozen 4
            have xy5 := xy.cell 5 rfl
            have xyz5 := xy.frozen 5
            have xy6 := xy.cell 6 rfl
            have xyz6 := xy.frozen 6
            have xy7 := xy.cell 7 rfl
            have xyz7 := xy.frozen 7
            have xy8 := xy.cell 8 rfl
            have xyz8 := xy.frozen 8
            go_wp2
            clear xx0 xxz0 xx1 xxz1 xx2 xxz2 xx3 xxz3 xx4 xxz4 xx5 xxz5 xx6 xxz6 xx7 xxz7 xx8 xxz8 xy0 xyz0 xy1 xyz1 xy2 xyz2 xy3 xyz3 xy4 xyz4 xy5 xyz5 xy6 xyz6 xy7 xyz7 xy8 xyz8
            go_roundw
            case rel => exact ⟨j + 1, by omega, by go_num, xx, xy, hB⟩
            case measure => simp [intOf]; omega
          · obtain rfl : j = m.length := by omega
            clear HL
            have xx0 := xx.cell 0 rfl
            have xxz0 := xx.frozen 0
            have xx1 := xx.cell 1 rfl
            have xxz1 := xx.frozen 1
            have xx2 := xx.cell 2 rfl
            have xxz2 := xx.frozen 2
            have xx3 := xx.cell 3 rfl
            have xxz3 := xx.frozen 3
            have xx4 := xx.cell 4 rfl
            have xxz4 := xx.frozen 4
            have xx5 := xx.cell 5 rfl
            have xxz5 := xx.frozen 5
            have xx6 := xx.cell 6 rfl
            have xxz6 := xx.frozen 6
            have xx7 := xx.cell 7 rfl
            have xxz7 := xx.frozen 7
            have xx8 := xx.cell 8 rfl
            have xxz8 := xx.frozen 8
            have xy0 := xy.cell 0 rfl
            have xyz0 := xy.frozen 0
            have xy1 := xy.cell 1 rfl
            have xyz1 := xy.frozen 1
            have xy2 := xy.cell 2 rfl
            have xyz2 := xy.frozen 2
            have xy3 := xy.cell 3 rfl
            have xyz3 := xy.frozen 3
            have xy4 := xy.cell 4 rfl
            have xyz4 := xy.frozen 4
            have xy5 := xy.cell 5 rfl
            have xyz5 := xy.frozen 5
            have xy6 := xy.cell 6 rfl
            have xyz6 := xy.frozen 6
            have xy7 := xy.cell 7 rfl
            have xyz7 := xy.frozen 7
            have xy8 := xy.cell 8 rfl
            have xyz8 := xy.frozen 8
            go_wp2
            go_ret
            exact ⟨rfl, hB⟩

theorem own : ownKnob Try.prog.godebug = none := by kernel_rfl

set_option maxRecDepth 100000 in
theorem lifted (os : Os) (started : os.Started) (H : Type) (enc : TypeId × Value → H) :
    ReturnsInHanded {} Try.checked os 6 .any (Rows.journalWornSpec.pre6 enc Try.prog Try.f6 Rows.journalWornRow.domain false) (Rows.journalWornSpec.post enc Try.prog Try.f6 false true false false) := by
  refine returnsInHanded_of_change (C := Try.checked) own started (by kernel_rfl) Try.func6
    (ChangeSpec.witness6 (enc := enc) (C := Try.checked) false ⟨#[], #[.int .u8 0, .slice none 0 0, .slice none 0 0], []⟩ 8 (by kernel_rfl) (by kernel_rfl) (by kernel_rfl) (by kernel_rfl)) ?_
  intro W base args ds gs before hval hW _ _
  have hW' := hW
  obtain ⟨p, q, hA0, hV, rfl, hfz, hnd⟩ := hW
  have hA : DataW.TrodAll enc Try.prog W 0 (fun _ => true) true Try.f6.params.toList args.toList ds p := hA0
  rw [Try.params6] at hA hval
  obtain ⟨v0, vs0, d0, ds0, p0, q0, hargs, rfl, rfl, h0, r0⟩ := trodAll_cons hA
  obtain ⟨v1, vs1, d1, ds1, p1, q1, rfl, rfl, rfl, h1, r1⟩ := trodAll_cons r0
  obtain ⟨v2, vs2, d2, ds2, p2, q2, rfl, rfl, rfl, h2, r2⟩ := trodAll_cons r1
  obtain ⟨rfl, rfl, rfl⟩ := trodAll_nil r2
  obtain rfl : args = #[v0, v1, v2] := by cases args; simp_all
  obtain ⟨rfl, rfl⟩ := trodVars_none hV
  obtain ⟨a0, rfl, rfl, rfl, w0⟩ := open_int Try.underlying5 (hval 0 5 v0 rfl rfl) h0
  obtain ⟨c0, rfl⟩ := int_u8 w0
  have k1 := h1
  obtain ⟨s1, A1, c1, rfl, hs1, ho1, hp1, hq1⟩ := open_stps (hval 1 22 v1 rfl rfl) h1
  have k2 := h2
  obtain ⟨s2, A2, c2, rfl, hs2, ho2, hp2, hq2⟩ := open_stps (hval 2 22 v2 rfl rfl) h2
  clear hA0
  simp only [List.append_nil] at hW'
  refine (walk c0 s1 A1 c1 s2 A2 c2 W hs1 ho1 hp1 hq1 hs2 ho2 hp2 hq2).mono fun e W' ⟨he, hB⟩ => ?_
  subst he
  exact ⟨_, rfl, ⟨_, _, _, [], _, [], hW', trodAll_cons_mk (shut_bool Try.underlying4 _) trodAll_mk0, (trodAll_cons_mk (shut_int Try.underlying5 w0) (trodAll_cons_mk (Below.trod Try.laidOut (by kernel_rfl) (of_decide_eq_true (by kernel_rfl)) k1 hB (fun x hx => by simpa using hW'.lt x (by simp [hx]))) (trodAll_cons_mk (Below.trod Try.laidOut (by kernel_rfl) (of_decide_eq_true (by kernel_rfl)) k2 hB (fun x hx => by simpa using hW'.lt x (by simp [hx]))) trodAll_mk0))), rfl, hB.frame _, fun h => by cases h⟩⟩

theorem holds : Rows.JournalWornSaid :=
  OpenClaim.holds_of_wide 6 Try.f6 rfl rfl rfl rfl rfl rfl rfl ⟨rfl, rfl, rfl, rfl, rfl⟩ rfl rfl rfl rfl rfl (by kernel_rfl) Try.func6 (by kernel_rfl)
    (of_decide_eq_true (by kernel_rfl)) (by unfold Func.isWrapper; first | (rw [if_pos (by decide +kernel)]; kernel_rfl) | (rw [if_neg (by decide +kernel)]; exact ⟨rfl, rfl⟩))
    (fun os started H enc _ => lifted os started H enc)
end Go.Proofs.Ythmpjoiifglbjaa.JournalWorn

/- The log behind any steps, from any flash, and its state, are the document's (JournalRuns); no condition. -/
import Derived.Test.YthmpjoiifglbjaaGreatJourLaw
import Derived.Test.YthmpjoiifglbjaaGreatJourOpen
import Derived.Deep.RegionHeld3
import Derived.WalkLawsBesides
import Derived.WalkSpells
import Derived.IntWalk
import Derived.Lib.Hide
import Derived.Test.YthmpjoiifglbjaaGreatBox
import Derived.Test.YthmpjoiifglbjaaGreatFlashOpen
import Derived.Test.YthmpjoiifglbjaaGreatDeepEq
import Derived.ProofKit
import Derived.OpenShut
import Derived.ChangeMaps5
import Derived.Test.YthmpjoiifglbjaaGreatInts
namespace Go.Proofs.YthmpjoiifglbjaaGreat.JournalRuns
open Go.ChangeShapes Go.WideShapes Go.ChangeAt Go.RowKit Go.ChangeMaps
set_option linter.unusedVariables false
set_option linter.unusedSimpArgs false
attribute [local go_sem] eqS2 eqI2 eqS2t eqI2t eqS2u eqI2u

set_option maxRecDepth 100000 in
set_option maxHeartbeats 16000000 in
theorem walk (f : Fl) (l : List Stp) (lA : Option Addr) (lc : Nat) (W : World) (hf : f.ok) (hl : RowsAt 3 stpV W lA l) (hlo : ∀ o ∈ l, o.ok) (hl1 : l.length ≤ lc) (hl2 : lc ≤ maxLen) :
    Calls Tryz.prog 4 #[.agg #[.string f.b0, .string f.b1, .int .i64 f.e0, .int .i64 f.e1, .int .i64 f.lim], .slice lA l.length lc] W fun e W' => e = .returned (.bool true) ∧ Below W.heap.size W W' := by
  have hlh := Lib.hid hl
  clear hl
  by_cases hbig : big12 f l = true
  · have TBg := Lib.hid (fun (V : World) (h : RowsAt 3 stpV V lA l) => (show Calls Tryz.prog 6 #[.agg #[.string f.b0, .string f.b1, .int .i64 f.e0, .int .i64 f.e1, .int .i64 f.lim], .slice lA l.length lc] V fun e W' => e = .returned (.bool true) ∧ Below V.heap.size V W' from by have k := law12Big f l lA lc V hlo h ⟨hl1, hl2⟩; rwa [hbig] at k))
    clear hbig
    have hB : Below W.heap.size W (W.alloc (.cells #[.string f.b0, .string f.b1, .int .i64 f.e0, .int .i64 f.e1, .int .i64 f.lim] 25)) := ((Below.refl _ _).alloc (Nat.le_refl _) _)
    have xf := (Box.new 25 W [.string f.b0, .string f.b1, .int .i64 f.e0, .int .i64 f.e1, .int .i64 f.lim])
    go_enter Tryz.func4, Tryz.ntmps4
    obtain ⟨xf0, xfz0, xf1, xfz1, xf2, xfz2, xf3, xfz3, xf4, xfz4⟩ := xf.f5
    go_wp2_with fail
    refine (TBg.out _ (hlh.out.seq hB)).mono ?_
    rintro e V1 ⟨rfl, hk⟩
    clear xf0 xfz0 xf1 xfz1 xf2 xfz2 xf3 xfz3 xf4 xfz4
    replace hB := below_seq hB hk
    replace xf := xf.seq hk
    clear hk
    obtain ⟨xf0, xfz0, xf1, xfz1, xf2, xfz2, xf3, xfz3, xf4, xfz4⟩ := xf.f5
    go_wp2_with fail
    refine (shown12 _).mono ?_
    rintro e V2 ⟨rfl, hk⟩
    clear xf0 xfz0 xf1 xfz1 xf2 xfz2 xf3 xfz3 xf4 xfz4
    replace hB := below_seq hB hk
    replace xf := xf.seq hk
    clear hk
    obtain ⟨xf0, xfz0, xf1, xfz1, xf2, xfz2, xf3, xfz3, xf4, xfz4⟩ := xf.f5
    go_wp2
    go_ret
    exact ⟨rfl, hB⟩
  · have hbig2 : big12 f l = false := by cases h : big12 f l with | false => rfl | true => exact absurd h hbig
    have TBg := Lib.hid (fun (V : World) (h : RowsAt 3 stpV V lA l) => (show Calls Tryz.prog 6 #[.agg #[.string f.b0, .string f.b1, .int .i64 f.e0, .int .i64 f.e1, .int .i64 f.lim], .slice lA l.length lc] V fun e W' => e = .returned (.bool false) ∧ Below V.heap.size V W' from by have k := law12Big f l lA lc V hlo h ⟨hl1, hl2⟩; rwa [hbig2] at k))
    obtain ⟨z0, z1⟩ := big12_no2 hbig2
    have hl60 := big12_no hbig2
    have hfit : f.fit := ⟨hf, by omega, by omega⟩
    clear hbig hbig2 z0 z1
    have TR := Lib.hid (fun (V : World) (h : RowsAt 3 stpV V lA l) => own12Run f l lA lc V hfit h hlo ⟨hl1, hl2⟩)
    have TT := Lib.hid (fun (V : World) (h : RowsAt 3 stpV V lA l) => law12Steps l lA lc V h ⟨hl1, hl2⟩ hl60)
    have TQ := Lib.hid (fun (A : Option Addr) (c : Nat) (V : World) (h : RowsAt 3 stpV V A l) (hc : l.length ≤ c ∧ c ≤ maxLen) => ref12Run f l A c V hfit h hlo hc)
    have hxf : (runJ (startJ f) l).f.fit := runJ_fit _ _ hfit
    generalize runJ (startJ f) l = x at *
    have TS := Lib.hid (fun (V : World) => own12State x V hxf.ok)
    have TU := Lib.hid (fun (V : World) => ref12State x V hxf.ok)
    have TL := Lib.hid (fun (V : World) => law12Log x V)
    generalize (pickS x.f).data = dd at *
    generalize decide (pickE x.f = 0) = bb at *
    clear hfit hf hlo hl1 hl2 hl60 hxf
    have hB : Below W.heap.size W (W.alloc (.cells #[.string f.b0, .string f.b1, .int .i64 f.e0, .int .i64 f.e1, .int .i64 f.lim] 25)) := ((Below.refl _ _).alloc (Nat.le_refl _) _)
    have xf := (Box.new 25 W [.string f.b0, .string f.b1, .int .i64 f.e0, .int .i64 f.e1, .int .i64 f.lim])
    go_enter Tryz.func4, Tryz.ntmps4
    obtain ⟨xf0, xfz0, xf1, xfz1, xf2, xfz2, xf3, xfz3, xf4, xfz4⟩ := xf.f5
    go_wp2_with fail
    refine (TBg.out _ (hlh.out.seq hB)).mono ?_
    rintro e V1 ⟨rfl, hk⟩
    clear xf0 xfz0 xf1 xfz1 xf2 xfz2 xf3 xfz3 xf4 xfz4
    replace hB := below_seq hB hk
    replace xf := xf.seq hk
    clear hk
    obtain ⟨xf0, xfz0, xf1, xfz1, xf2, xfz2, xf3, xfz3, xf4, xfz4⟩ := xf.f5
    go_wp2_with fail
    refine (shown12 _).mono ?_
    rintro e V2 ⟨rfl, hk⟩
    clear xf0 xfz0 xf1 xfz1 xf2 xfz2 xf3 xfz3 xf4 xfz4
    replace hB := below_seq hB hk
    replace xf := xf.seq hk
    clear hk
    obtain ⟨xf0, xfz0, xf1, xfz1, xf2, xfz2, xf3, xfz3, xf4, xfz4⟩ := xf.f5
    go_wp2_with fail
    refine (TR.out _ (hlh.out.seq hB)).mono ?_
    rintro e V3 ⟨rfl, hk⟩
    clear xf0 xfz0 xf1 xfz1 xf2 xfz2 xf3 xfz3 xf4 xfz4
    replace hB := below_seq hB hk
    replace xf := xf.seq hk
    clear hk
    have xa := Box.new 43 V3 [.string x.f.b0, .string x.f.b1, .int .i64 x.f.e0, .int .i64 x.f.e1, .int .i64 x.f.lim, .int .i64 x.acked, .int .u64 (x.last : Int), .bool x.flying, .int .u64 (x.flight : Int)]
    have ne_xa_xf : V3.heap.size ≠ W.heap.size := Nat.ne_of_gt xf.lt
    have le_xa : W.heap.size ≤ V3.heap.size := hB.size
    replace xf := xf.alloc (.cells #[.string x.f.b0, .string x.f.b1, .int .i64 x.f.e0, .int .i64 x.f.e1, .int .i64 x.f.lim, .int .i64 x.acked, .int .u64 (x.last : Int), .bool x.flying, .int .u64 (x.flight : Int)] 43)
    replace hB := hB.alloc hB.size (.cells #[.string x.f.b0, .string x.f.b1, .int .i64 x.f.e0, .int .i64 x.f.e1, .int .i64 x.f.lim, .int .i64 x.acked, .int .u64 (x.last : Int), .bool x.flying, .int .u64 (x.flight : Int)] 43)
    obtain ⟨xf0, xfz0, xf1, xfz1, xf2, xfz2, xf3, xfz3, xf4, xfz4⟩ := xf.f5
    obtain ⟨xa0, xaz0, xa1, xaz1, xa2, xaz2, xa3, xaz3, xa4, xaz4, xa5, xaz5, xa6, xaz6, xa7, xaz7, xa8, xaz8⟩ := xa.f9
    go_wp2_with fail
    clear xf0 xfz0 xf1 xfz1 xf2 xfz2 xf3 xfz3 xf4 xfz4 xa0 xaz0 xa1 xaz1 xa2 xaz2 xa3 xaz3 xa4 xaz4 xa5 xaz5 xa6 xaz6 xa7 xaz7 xa8 xaz8
    generalize (V3.alloc (.cells #[.string x.f.b0, .string x.f.b1, .int .i64 x.f.e0, .int .i64 x.f.e1, .int .i64 x.f.lim, .int .i64 x.acked, .int .u64 (x.last : Int), .bool x.flying, .int .u64 (x.flight : Int)] 43)) = V4 at *
    replace hB := hB.drew
    replace xf := xf.drew
    replace xa := xa.drew
    refine wp_region_held_drew (S := fun w' => w'.cell? ⟨W.heap.size, 0, none⟩ = some (.string f.b0) ∧ w'.cell? ⟨W.heap.size, 1, none⟩ = some (.string f.b1) ∧ w'.cell? ⟨W.heap.size, 2, none⟩ = some (.int .i64 f.e0) ∧ w'.cell? ⟨W.heap.size, 3, none⟩ = some (.int .i64 f.e1) ∧ w'.cell? ⟨W.heap.size, 4, none⟩ = some (.int .i64 f.lim)) (by kernel_rfl) ?_ (fun hHeld => ?_)
    · exact ⟨xf.cell 0 rfl, xf.cell 1 rfl, xf.cell 2 rfl, xf.cell 3 rfl, xf.cell 4 rfl⟩
    generalize V4.drew = V5 at *
    refine tk 0 (v := ?_) rfl (Or.inl ⟨by rfl, ?_⟩) ?_; rotate_left
    · intro w hSw; (try dsimp only at hSw); go_simp; try with_reducible rfl
    try simp only [Act.put, l1, l2, l3, l4, l5, l6]
    refine tk 1 (v := ?_) rfl (Or.inl ⟨by rfl, ?_⟩) ?_; rotate_left
    · intro w hSw; (try dsimp only at hSw); go_simp; try with_reducible rfl
    try simp only [Act.put, l1, l2, l3, l4, l5, l6]
    refine wpAnyH_ready (rs := [2, 4]) (by kernel_rfl) (by simp) ?_
    refine AllReadyH.cons rfl (fun K hK => ?_) (AllReadyH.cons rfl (fun K hK => ?_) (AllReadyH.nil))
    · have xf0 := xf.cell 0 rfl
      have xfz0 := xf.frozen 0
      have xf1 := xf.cell 1 rfl
      have xfz1 := xf.frozen 1
      have xf2 := xf.cell 2 rfl
      have xfz2 := xf.frozen 2
      have xf3 := xf.cell 3 rfl
      have xfz3 := xf.frozen 3
      have xf4 := xf.cell 4 rfl
      have xfz4 := xf.frozen 4
      obtain ⟨xa0, xaz0, xa1, xaz1, xa2, xaz2, xa3, xaz3, xa4, xaz4, xa5, xaz5, xa6, xaz6, xa7, xaz7, xa8, xaz8⟩ := xa.f9
      go_simp
      refine (TT.out _ (hlh.out.seq hB)).mono ?_
      rintro e V6 ⟨A2, c2, rfl, h2, hc2, hk⟩
      clear xf0 xfz0 xf1 xfz1 xf2 xfz2 xf3 xfz3 xf4 xfz4 xa0 xaz0 xa1 xaz1 xa2 xaz2 xa3 xaz3 xa4 xaz4 xa5 xaz5 xa6 xaz6 xa7 xaz7 xa8 xaz8
      replace hB := below_seq hB hk
      replace xf := xf.seq hk
      replace xa := xa.seq hk
      clear hk
      replace hc2 := Lib.hid hc2
      obtain ⟨xf0, xfz0, xf1, xfz1, xf2, xfz2, xf3, xfz3, xf4, xfz4⟩ := xf.f5
      obtain ⟨xa0, xaz0, xa1, xaz1, xa2, xaz2, xa3, xaz3, xa4, xaz4, xa5, xaz5, xa6, xaz6, xa7, xaz7, xa8, xaz8⟩ := xa.f9
      try go_wp2_with fail
      clear xf0 xfz0 xf1 xfz1 xf2 xfz2 xf3 xfz3 xf4 xfz4 xa0 xaz0 xa1 xaz1 xa2 xaz2 xa3 xaz3 xa4 xaz4 xa5 xaz5 xa6 xaz6 xa7 xaz7 xa8 xaz8
      clear hHeld
      refine hK.out _ _ ?_ (fun hHeld => ?_)
      · exact ⟨xf.cell 0 rfl, xf.cell 1 rfl, xf.cell 2 rfl, xf.cell 3 rfl, xf.cell 4 rfl⟩
      clear hK K
      try simp only [Act.put, l1, l2, l3, l4, l5, l6]
      refine wpAnyH_ready (rs := [3, 4]) (by kernel_rfl) (by simp) ?_
      refine AllReadyH.cons rfl (fun K hK => ?_) (AllReadyH.cons rfl (fun K hK => ?_) (AllReadyH.nil))
      · have xf0 := xf.cell 0 rfl
        have xfz0 := xf.frozen 0
        have xf1 := xf.cell 1 rfl
        have xfz1 := xf.frozen 1
        have xf2 := xf.cell 2 rfl
        have xfz2 := xf.frozen 2
        have xf3 := xf.cell 3 rfl
        have xfz3 := xf.frozen 3
        have xf4 := xf.cell 4 rfl
        have xfz4 := xf.frozen 4
        obtain ⟨xa0, xaz0, xa1, xaz1, xa2, xaz2, xa3, xaz3, xa4, xaz4, xa5, xaz5, xa6, xaz6, xa7, xaz7, xa8, xaz8⟩ := xa.f9
        go_simp
        refine (TQ.out A2 c2 _ h2 hc2.out).mono ?_
        rintro e V7 ⟨rfl, hk⟩
        clear xf0 xfz0 xf1 xfz1 xf2 xfz2 xf3 xfz3 xf4 xfz4 xa0 xaz0 xa1 xaz1 xa2 xaz2 xa3 xaz3 xa4 xaz4 xa5 xaz5 xa6 xaz6 xa7 xaz7 xa8 xaz8
        clear h2
        replace hB := below_seq hB hk
        replace xf := xf.seq hk
        replace xa := xa.seq hk
        clear hk
        obtain ⟨xf0, xfz0, xf1, xfz1, xf2, xfz2, xf3, xfz3, xf4, xfz4⟩ := xf.f5
        obtain ⟨xa0, xaz0, xa1, xaz1, xa2, xaz2, xa3, xaz3, xa4, xaz4, xa5, xaz5, xa6, xaz6, xa7, xaz7, xa8, xaz8⟩ := xa.f9
        try go_wp2_with fail
        clear xf0 xfz0 xf1 xfz1 xf2 xfz2 xf3 xfz3 xf4 xfz4 xa0 xaz0 xa1 xaz1 xa2 xaz2 xa3 xaz3 xa4 xaz4 xa5 xaz5 xa6 xaz6 xa7 xaz7 xa8 xaz8
        clear hHeld
        refine hK.out _ _ ?_ (fun hHeld => ?_)
        · exact ⟨xf.cell 0 rfl, xf.cell 1 rfl, xf.cell 2 rfl, xf.cell 3 rfl, xf.cell 4 rfl⟩
        clear hK K
        try simp only [Act.put, l1, l2, l3, l4, l5, l6]
        refine wpAnyH_ready (rs := [4]) (by kernel_rfl) (by simp) ?_
        refine AllReadyH.cons rfl (fun K hK => ?_) (AllReadyH.nil)
        obtain ⟨xf0, xfz0, xf1, xfz1, xf2, xfz2, xf3, xfz3, xf4, xfz4⟩ := xf.f5
        obtain ⟨xa0, xaz0, xa1, xaz1, xa2, xaz2, xa3, xaz3, xa4, xaz4, xa5, xaz5, xa6, xaz6, xa7, xaz7, xa8, xaz8⟩ := xa.f9
        go_simp
        try go_wp2_with fail
        clear xf0 xfz0 xf1 xfz1 xf2 xfz2 xf3 xfz3 xf4 xfz4 xa0 xaz0 xa1 xaz1 xa2 xaz2 xa3 xaz3 xa4 xaz4 xa5 xaz5 xa6 xaz6 xa7 xaz7 xa8 xaz8
        have xb := Box.new 46 V7 [.string ⟨#[]⟩, .string ⟨#[]⟩, .int .i64 0, .int .i64 0, .int .i64 0, .int .i64 0, .int .u64 0, .bool false, .int .u64 0]
        have ne_xb_xf : V7.heap.size ≠ W.heap.size := Nat.ne_of_gt xf.lt
        have ne_xb_xa : V7.heap.size ≠ V3.heap.size := Nat.ne_of_gt xa.lt
        have le_xb : W.heap.size ≤ V7.heap.size := hB.size
        replace xf := xf.alloc (.cells #[.string ⟨#[]⟩, .string ⟨#[]⟩, .int .i64 0, .int .i64 0, .int .i64 0, .int .i64 0, .int .u64 0, .bool false, .int .u64 0] 46)
        replace xa := xa.alloc (.cells #[.string ⟨#[]⟩, .string ⟨#[]⟩, .int .i64 0, .int .i64 0, .int .i64 0, .int .i64 0, .int .u64 0, .bool false, .int .u64 0] 46)
        replace hB := hB.alloc hB.size (.cells #[.string ⟨#[]⟩, .string ⟨#[]⟩, .int .i64 0, .int .i64 0, .int .i64 0, .int .i64 0, .int .u64 0, .bool false, .int .u64 0] 46)
        obtain ⟨xf0, xfz0, xf1, xfz1, xf2, xfz2, xf3, xfz3, xf4, xfz4⟩ := xf.f5
        obtain ⟨xa0, xaz0, xa1, xaz1, xa2, xaz2, xa3, xaz3, xa4, xaz4, xa5, xaz5, xa6, xaz6, xa7, xaz7, xa8, xaz8⟩ := xa.f9
        obtain ⟨xb0, xbz0, xb1, xbz1, xb2, xbz2, xb3, xbz3, xb4, xbz4, xb5, xbz5, xb6, xbz6, xb7, xbz7, xb8, xbz8⟩ := xb.f9
        generalize (V7.alloc (.cells #[.string ⟨#[]⟩, .string ⟨#[]⟩, .int .i64 0, .int .i64 0, .int .i64 0, .int .i64 0, .int .u64 0, .bool false, .int .u64 0] 46)) = V8 at *
        generalize V7.heap.size = g_xb at *
        clear xf0 xfz0 xf1 xfz1 xf2 xfz2 xf3 xfz3 xf4 xfz4 xa0 xaz0 xa1 xaz1 xa2 xaz2 xa3 xaz3 xa4 xaz4 xa5 xaz5 xa6 xaz6 xa7 xaz7 xa8 xaz8 xb0 xbz0 xb1 xbz1 xb2 xbz2 xb3 xbz3 xb4 xbz4 xb5 xbz5 xb6 xbz6 xb7 xbz7 xb8 xbz8
        clear hHeld
        refine hK.out _ _ ?_ (fun hHeld => ?_)
        · exact ⟨xf.cell 0 rfl, xf.cell 1 rfl, xf.cell 2 rfl, xf.cell 3 rfl, xf.cell 4 rfl⟩
        clear hK K
        try simp only [Act.put, l1, l2, l3, l4, l5, l6]
        refine wpAnyH_ready (rs := [5]) (by kernel_rfl) (by simp) ?_
        refine AllReadyH.cons rfl (fun K hK => ?_) (AllReadyH.nil)
        obtain ⟨xf0, xfz0, xf1, xfz1, xf2, xfz2, xf3, xfz3, xf4, xfz4⟩ := xf.f5
        obtain ⟨xa0, xaz0, xa1, xaz1, xa2, xaz2, xa3, xaz3, xa4, xaz4, xa5, xaz5, xa6, xaz6, xa7, xaz7, xa8, xaz8⟩ := xa.f9
        obtain ⟨xb0, xbz0, xb1, xbz1, xb2, xbz2, xb3, xbz3, xb4, xbz4, xb5, xbz5, xb6, xbz6, xb7, xbz7, xb8, xbz8⟩ := xb.f9
        go_simp
        try go_wp2_with fail
        clear xf0 xfz0 xf1 xfz1 xf2 xfz2 xf3 xfz3 xf4 xfz4 xa0 xaz0 xa1 xaz1 xa2 xaz2 xa3 xaz3 xa4 xaz4 xa5 xaz5 xa6 xaz6 xa7 xaz7 xa8 xaz8 xb0 xbz0 xb1 xbz1 xb2 xbz2 xb3 xbz3 xb4 xbz4 xb5 xbz5 xb6 xbz6 xb7 xbz7 xb8 xbz8
        replace xf := (((((((((xf.other ne_xb_xf 0 (.string x.f.b0)).other ne_xb_xf 1 (.string x.f.b1)).other ne_xb_xf 2 (.int .i64 x.f.e0)).other ne_xb_xf 3 (.int .i64 x.f.e1)).other ne_xb_xf 4 (.int .i64 x.f.lim)).other ne_xb_xf 5 (.int .i64 x.acked)).other ne_xb_xf 6 (.int .u64 (x.last : Int))).other ne_xb_xf 7 (.bool x.flying)).other ne_xb_xf 8 (.int .u64 (x.flight : Int)))
        replace xa := (((((((((xa.other ne_xb_xa 0 (.string x.f.b0)).other ne_xb_xa 1 (.string x.f.b1)).other ne_xb_xa 2 (.int .i64 x.f.e0)).other ne_xb_xa 3 (.int .i64 x.f.e1)).other ne_xb_xa 4 (.int .i64 x.f.lim)).other ne_xb_xa 5 (.int .i64 x.acked)).other ne_xb_xa 6 (.int .u64 (x.last : Int))).other ne_xb_xa 7 (.bool x.flying)).other ne_xb_xa 8 (.int .u64 (x.flight : Int)))
        replace xb : Box 46 (((((((((V8.setCell ⟨g_xb, 0, none⟩ (.string x.f.b0)).setCell ⟨g_xb, 1, none⟩ (.string x.f.b1)).setCell ⟨g_xb, 2, none⟩ (.int .i64 x.f.e0)).setCell ⟨g_xb, 3, none⟩ (.int .i64 x.f.e1)).setCell ⟨g_xb, 4, none⟩ (.int .i64 x.f.lim)).setCell ⟨g_xb, 5, none⟩ (.int .i64 x.acked)).setCell ⟨g_xb, 6, none⟩ (.int .u64 (x.last : Int))).setCell ⟨g_xb, 7, none⟩ (.bool x.flying)).setCell ⟨g_xb, 8, none⟩ (.int .u64 (x.flight : Int))) (g_xb) [.string x.f.b0, .string x.f.b1, .int .i64 x.f.e0, .int .i64 x.f.e1, .int .i64 x.f.lim, .int .i64 x.acked, .int .u64 (x.last : Int), .bool x.flying, .int .u64 (x.flight : Int)] := (((((((((xb.set 0 (.string x.f.b0)).set 1 (.string x.f.b1)).set 2 (.int .i64 x.f.e0)).set 3 (.int .i64 x.f.e1)).set 4 (.int .i64 x.f.lim)).set 5 (.int .i64 x.acked)).set 6 (.int .u64 (x.last : Int))).set 7 (.bool x.flying)).set 8 (.int .u64 (x.flight : Int)))
        replace hB : Below W.heap.size W (((((((((V8.setCell ⟨g_xb, 0, none⟩ (.string x.f.b0)).setCell ⟨g_xb, 1, none⟩ (.string x.f.b1)).setCell ⟨g_xb, 2, none⟩ (.int .i64 x.f.e0)).setCell ⟨g_xb, 3, none⟩ (.int .i64 x.f.e1)).setCell ⟨g_xb, 4, none⟩ (.int .i64 x.f.lim)).setCell ⟨g_xb, 5, none⟩ (.int .i64 x.acked)).setCell ⟨g_xb, 6, none⟩ (.int .u64 (x.last : Int))).setCell ⟨g_xb, 7, none⟩ (.bool x.flying)).setCell ⟨g_xb, 8, none⟩ (.int .u64 (x.flight : Int))) := (((((((((hB.setCell le_xb _).setCell le_xb _).setCell le_xb _).setCell le_xb _).setCell le_xb _).setCell le_xb _).setCell le_xb _).setCell le_xb _).setCell le_xb _)
        generalize (((((((((V8.setCell ⟨g_xb, 0, none⟩ (.string x.f.b0)).setCell ⟨g_xb, 1, none⟩ (.string x.f.b1)).setCell ⟨g_xb, 2, none⟩ (.int .i64 x.f.e0)).setCell ⟨g_xb, 3, none⟩ (.int .i64 x.f.e1)).setCell ⟨g_xb, 4, none⟩ (.int .i64 x.f.lim)).setCell ⟨g_xb, 5, none⟩ (.int .i64 x.acked)).setCell ⟨g_xb, 6, none⟩ (.int .u64 (x.last : Int))).setCell ⟨g_xb, 7, none⟩ (.bool x.flying)).setCell ⟨g_xb, 8, none⟩ (.int .u64 (x.flight : Int))) = V9 at *
        clear hHeld
        refine hK.out _ _ ?_ (fun hHeld => ?_)
        · exact ⟨xf.cell 0 rfl, xf.cell 1 rfl, xf.cell 2 rfl, xf.cell 3 rfl, xf.cell 4 rfl⟩
        clear hK K
        try simp only [Act.put, l1, l2, l3, l4, l5, l6]
        refine wpAnyH_done (by kernel_rfl) ?_ _
        clear hHeld
        obtain ⟨xf0, xfz0, xf1, xfz1, xf2, xfz2, xf3, xfz3, xf4, xfz4⟩ := xf.f5
        obtain ⟨xa0, xaz0, xa1, xaz1, xa2, xaz2, xa3, xaz3, xa4, xaz4, xa5, xaz5, xa6, xaz6, xa7, xaz7, xa8, xaz8⟩ := xa.f9
        obtain ⟨xb0, xbz0, xb1, xbz1, xb2, xbz2, xb3, xbz3, xb4, xbz4, xb5, xbz5, xb6, xbz6, xb7, xbz7, xb8, xbz8⟩ := xb.f9
        go_wp2_with fail
        refine (TS.out _).mono ?_
        rintro e V10 ⟨rfl, hk⟩
        clear xf0 xfz0 xf1 xfz1 xf2 xfz2 xf3 xfz3 xf4 xfz4 xa0 xaz0 xa1 xaz1 xa2 xaz2 xa3 xaz3 xa4 xaz4 xa5 xaz5 xa6 xaz6 xa7 xaz7 xa8 xaz8 xb0 xbz0 xb1 xbz1 xb2 xbz2 xb3 xbz3 xb4 xbz4 xb5 xbz5 xb6 xbz6 xb7 xbz7 xb8 xbz8
        replace hB := below_seq hB hk
        replace xf := xf.seq hk
        replace xa := xa.seq hk
        replace xb := xb.seq hk
        clear hk
        obtain ⟨xf0, xfz0, xf1, xfz1, xf2, xfz2, xf3, xfz3, xf4, xfz4⟩ := xf.f5
        obtain ⟨xa0, xaz0, xa1, xaz1, xa2, xaz2, xa3, xaz3, xa4, xaz4, xa5, xaz5, xa6, xaz6, xa7, xaz7, xa8, xaz8⟩ := xa.f9
        obtain ⟨xb0, xbz0, xb1, xbz1, xb2, xbz2, xb3, xbz3, xb4, xbz4, xb5, xbz5, xb6, xbz6, xb7, xbz7, xb8, xbz8⟩ := xb.f9
        go_wp2_with fail
        refine (TU.out _).mono ?_
        rintro e V11 ⟨rfl, hk⟩
        clear xf0 xfz0 xf1 xfz1 xf2 xfz2 xf3 xfz3 xf4 xfz4 xa0 xaz0 xa1 xaz1 xa2 xaz2 xa3 xaz3 xa4 xaz4 xa5 xaz5 xa6 xaz6 xa7 xaz7 xa8 xaz8 xb0 xbz0 xb1 xbz1 xb2 xbz2 xb3 xbz3 xb4 xbz4 xb5 xbz5 xb6 xbz6 xb7 xbz7 xb8 xbz8
        replace hB := below_seq hB hk
        replace xf := xf.seq hk
        replace xa := xa.seq hk
        replace xb := xb.seq hk
        clear hk
        obtain ⟨xf0, xfz0, xf1, xfz1, xf2, xfz2, xf3, xfz3, xf4, xfz4⟩ := xf.f5
        obtain ⟨xa0, xaz0, xa1, xaz1, xa2, xaz2, xa3, xaz3, xa4, xaz4, xa5, xaz5, xa6, xaz6, xa7, xaz7, xa8, xaz8⟩ := xa.f9
        obtain ⟨xb0, xbz0, xb1, xbz1, xb2, xbz2, xb3, xbz3, xb4, xbz4, xb5, xbz5, xb6, xbz6, xb7, xbz7, xb8, xbz8⟩ := xb.f9
        go_wp2_with fail
        clear xf0 xfz0 xf1 xfz1 xf2 xfz2 xf3 xfz3 xf4 xfz4 xa0 xaz0 xa1 xaz1 xa2 xaz2 xa3 xaz3 xa4 xaz4 xa5 xaz5 xa6 xaz6 xa7 xaz7 xa8 xaz8 xb0 xbz0 xb1 xbz1 xb2 xbz2 xb3 xbz3 xb4 xbz4 xb5 xbz5 xb6 xbz6 xb7 xbz7 xb8 xbz8
        replace hB := hB.drew
        replace xf := xf.drew
        replace xa := xa.drew
        replace xb := xb.drew
        refine wp_region_held_drew (S := fun w' => w'.cell? ⟨V3.heap.size, 0, none⟩ = some (.string x.f.b0) ∧ w'.cell? ⟨V3.heap.size, 1, none⟩ = some (.string x.f.b1) ∧ w'.cell? ⟨V3.heap.size, 2, none⟩ = some (.int .i64 x.f.e0) ∧ w'.cell? ⟨V3.heap.size, 3, none⟩ = some (.int .i64 x.f.e1) ∧ w'.cell? ⟨V3.heap.size, 4, none⟩ = some (.int .i64 x.f.lim) ∧ w'.cell? ⟨V3.heap.size, 5, none⟩ = some (.int .i64 x.acked) ∧ w'.cell? ⟨V3.heap.size, 6, none⟩ = some (.int .u64 (x.last : Int)) ∧ w'.cell? ⟨V3.heap.size, 7, none⟩ = some (.bool x.flying) ∧ w'.cell? ⟨V3.heap.size, 8, none⟩ = some (.int .u64 (x.flight : Int)) ∧ w'.cell? ⟨g_xb, 0, none⟩ = some (.string x.f.b0) ∧ w'.cell? ⟨g_xb, 1, none⟩ = some (.string x.f.b1) ∧ w'.cell? ⟨g_xb, 2, none⟩ = some (.int .i64 x.f.e0) ∧ w'.cell? ⟨g_xb, 3, none⟩ = some (.int .i64 x.f.e1) ∧ w'.cell? ⟨g_xb, 4, none⟩ = some (.int .i64 x.f.lim) ∧ w'.cell? ⟨g_xb, 5, none⟩ = some (.int .i64 x.acked) ∧ w'.cell? ⟨g_xb, 6, none⟩ = some (.int .u64 (x.last : Int)) ∧ w'.cell? ⟨g_xb, 7, none⟩ = some (.bool x.flying) ∧ w'.cell? ⟨g_xb, 8, none⟩ = some (.int .u64 (x.flight : Int))) (by kernel_rfl) ?_ (fun hHeld => ?_)
        · exact ⟨xa.cell 0 rfl, xa.cell 1 rfl, xa.cell 2 rfl, xa.cell 3 rfl, xa.cell 4 rfl, xa.cell 5 rfl, xa.cell 6 rfl, xa.cell 7 rfl, xa.cell 8 rfl, xb.cell 0 rfl, xb.cell 1 rfl, xb.cell 2 rfl, xb.cell 3 rfl, xb.cell 4 rfl, xb.cell 5 rfl, xb.cell 6 rfl, xb.cell 7 rfl, xb.cell 8 rfl⟩
        generalize V11.drew = V12 at *
        refine tk 0 (v := ?_) rfl (Or.inl ⟨by rfl, ?_⟩) ?_; rotate_left
        · intro w hSw; (try dsimp only at hSw); go_simp; try with_reducible rfl
        try simp only [Act.put, l1, l2, l3, l4, l5, l6]
        refine tk 2 (v := ?_) rfl (Or.inl ⟨by rfl, ?_⟩) ?_; rotate_left
        · intro w hSw; (try dsimp only at hSw); go_simp; try with_reducible rfl
        try simp only [Act.put, l1, l2, l3, l4, l5, l6]
        refine wpAnyH_ready (rs := [1]) (by kernel_rfl) (by simp) ?_
        refine AllReadyH.cons rfl (fun K hK => ?_) AllReadyH.nil
        obtain ⟨xf0, xfz0, xf1, xfz1, xf2, xfz2, xf3, xfz3, xf4, xfz4⟩ := xf.f5
        obtain ⟨xa0, xaz0, xa1, xaz1, xa2, xaz2, xa3, xaz3, xa4, xaz4, xa5, xaz5, xa6, xaz6, xa7, xaz7, xa8, xaz8⟩ := xa.f9
        obtain ⟨xb0, xbz0, xb1, xbz1, xb2, xbz2, xb3, xbz3, xb4, xbz4, xb5, xbz5, xb6, xbz6, xb7, xbz7, xb8, xbz8⟩ := xb.f9
        go_simp
        refine (TL.out _).mono ?_
        rintro e V13 ⟨rfl, hk⟩
        clear xf0 xfz0 xf1 xfz1 xf2 xfz2 xf3 xfz3 xf4 xfz4 xa0 xaz0 xa1 xaz1 xa2 xaz2 xa3 xaz3 xa4 xaz4 xa5 xaz5 xa6 xaz6 xa7 xaz7 xa8 xaz8 xb0 xbz0 xb1 xbz1 xb2 xbz2 xb3 xbz3 xb4 xbz4 xb5 xbz5 xb6 xbz6 xb7 xbz7 xb8 xbz8
        replace hB := below_seq hB hk
        replace xf := xf.seq hk
        replace xa := xa.seq hk
        replace xb := xb.seq hk
        clear hk
        obtain ⟨xf0, xfz0, xf1, xfz1, xf2, xfz2, xf3, xfz3, xf4, xfz4⟩ := xf.f5
        obtain ⟨xa0, xaz0, xa1, xaz1, xa2, xaz2, xa3, xaz3, xa4, xaz4, xa5, xaz5, xa6, xaz6, xa7, xaz7, xa8, xaz8⟩ := xa.f9
        obtain ⟨xb0, xbz0, xb1, xbz1, xb2, xbz2, xb3, xbz3, xb4, xbz4, xb5, xbz5, xb6, xbz6, xb7, xbz7, xb8, xbz8⟩ := xb.f9
        try go_wp2_with fail
        clear xf0 xfz0 xf1 xfz1 xf2 xfz2 xf3 xfz3 xf4 xfz4 xa0 xaz0 xa1 xaz1 xa2 xaz2 xa3 xaz3 xa4 xaz4 xa5 xaz5 xa6 xaz6 xa7 xaz7 xa8 xaz8 xb0 xbz0 xb1 xbz1 xb2 xbz2 xb3 xbz3 xb4 xbz4 xb5 xbz5 xb6 xbz6 xb7 xbz7 xb8 xbz8
        clear hHeld
        refine hK.out _ _ ?_ (fun hHeld => ?_)
        · exact ⟨xa.cell 0 rfl, xa.cell 1 rfl, xa.cell 2 rfl, xa.cell 3 rfl, xa.cell 4 rfl, xa.cell 5 rfl, xa.cell 6 rfl, xa.cell 7 rfl, xa.cell 8 rfl, xb.cell 0 rfl, xb.cell 1 rfl, xb.cell 2 rfl, xb.cell 3 rfl, xb.cell 4 rfl, xb.cell 5 rfl, xb.cell 6 rfl, xb.cell 7 rfl, xb.cell 8 rfl⟩
        clear hK K
        try simp only [Act.put, l1, l2, l3, l4, l5, l6]
        refine tk 3 (v := ?_) rfl (Or.inl ⟨by rfl, ?_⟩) ?_; rotate_left
        · intro w hSw; (try dsimp only at hSw); go_simp; try with_reducible rfl
        try simp only [Act.put, l1, l2, l3, l4, l5, l6]
        refine tk 4 (v := ?_) rfl (Or.inl ⟨by rfl, ?_⟩) ?_; rotate_left
        · intro w hSw; (try dsimp only at hSw); go_simp; try with_reducible rfl
        try simp only [Act.put, l1, l2, l3, l4, l5, l6]
        refine tk 5 (v := ?_) rfl (Or.inl ⟨by rfl, ?_⟩) ?_; rotate_left
        · intro w hSw; (try dsimp only at hSw); go_simp; try with_reducible rfl
        try simp only [Act.put, l1, l2, l3, l4, l5, l6]
        refine tk 6 (v := ?_) rfl (Or.inl ⟨by rfl, ?_⟩) ?_; rotate_left
        · intro w hSw; (try dsimp only at hSw); go_simp; try with_reducible rfl
        try simp only [Act.put, l1, l2, l3, l4, l5, l6]
        refine tk 7 (v := ?_) rfl (Or.inl ⟨by rfl, ?_⟩) ?_; rotate_left
        · intro w hSw; (try dsimp only at hSw); go_simp; try with_reducible rfl
        try simp only [Act.put, l1, l2, l3, l4, l5, l6]
        refine tk 8 (v := ?_) rfl (Or.inl ⟨by rfl, ?_⟩) ?_; rotate_left
        · intro w hSw; (try dsimp only at hSw); go_simp; try with_reducible rfl
        try simp only [Act.put, l1, l2, l3, l4, l5, l6]
        refine tk 9 (v := ?_) rfl (Or.inl ⟨by rfl, ?_⟩) ?_; rotate_left
        · intro w hSw; (try dsimp only at hSw); go_simp; try with_reducible rfl
        try simp only [Act.put, l1, l2, l3, l4, l5, l6]
        refine tk 10 (v := ?_) rfl (Or.inl ⟨by rfl, ?_⟩) ?_; rotate_left
        · intro w hSw; (try dsimp only at hSw); go_simp; try with_reducible rfl
        try simp only [Act.put, l1, l2, l3, l4, l5, l6]
        refine tk 11 (v := ?_) rfl (Or.inl ⟨by rfl, ?_⟩) ?_; rotate_left
        · intro w hSw; (try dsimp only at hSw); go_simp; try with_reducible rfl
        try simp only [Act.put, l1, l2, l3, l4, l5, l6]
        refine tk 12 (v := ?_) rfl (Or.inl ⟨by rfl, ?_⟩) ?_; rotate_left
        · intro w hSw; (try dsimp only at hSw); go_simp; try with_reducible rfl
        try simp only [Act.put, l1, l2, l3, l4, l5, l6]
        refine tk 13 (v := ?_) rfl (Or.inl ⟨by rfl, ?_⟩) ?_; rotate_left
        · intro w hSw; (try dsimp only at hSw); go_simp; try with_reducible rfl
        try simp only [Act.put, l1, l2, l3, l4, l5, l6]
        refine tk 14 (v := ?_) rfl (Or.inl ⟨by rfl, ?_⟩) ?_; rotate_left
        · intro w hSw; (try dsimp only at hSw); go_simp; try with_reducible rfl
        try simp only [Act.put, l1, l2, l3, l4, l5, l6]
        refine wpAnyH_done (by kernel_rfl) ?_ _
        clear hHeld
        obtain ⟨xf0, xfz0, xf1, xfz1, xf2, xfz2, xf3, xfz3, xf4, xfz4⟩ := xf.f5
        obtain ⟨xa0, xaz0, xa1, xaz1, xa2, xaz2, xa3, xaz3, xa4, xaz4, xa5, xaz5, xa6, xaz6, xa7, xaz7, xa8, xaz8⟩ := xa.f9
        obtain ⟨xb0, xbz0, xb1, xbz1, xb2, xbz2, xb3, xbz3, xb4, xbz4, xb5, xbz5, xb6, xbz6, xb7, xbz7, xb8, xbz8⟩ := xb.f9
        go_wp2
        go_ret
        exact ⟨rfl, hB⟩
      · have xf0 := xf.cell 0 rfl
        have xfz0 := xf.frozen 0
        have xf1 := xf.cell 1 rfl
        have xfz1 := xf.frozen 1
        have xf2 := xf.cell 2 rfl
        have xfz2 := xf.frozen 2
        have xf3 := xf.cell 3 rfl
        have xfz3 := xf.frozen 3
        have xf4 := xf.cell 4 rfl
        have xfz4 := xf.frozen 4
        obtain ⟨xa0, xaz0, xa1, xaz1, xa2, xaz2, xa3, xaz3, xa4, xaz4, xa5, xaz5, xa6, xaz6, xa7, xaz7, xa8, xaz8⟩ := xa.f9
        go_simp
        try go_wp2_with fail
        clear xf0 xfz0 xf1 xfz1 xf2 xfz2 xf3 xfz3 xf4 xfz4 xa0 xaz0 xa1 xaz1 xa2 xaz2 xa3 xaz3 xa4 xaz4 xa5 xaz5 xa6 xaz6 xa7 xaz7 xa8 xaz8
        have xb := Box.new 46 V6 [.string ⟨#[]⟩, .string ⟨#[]⟩, .int .i64 0, .int .i64 0, .int .i64 0, .int .i64 0, .int .u64 0, .bool false, .int .u64 0]
        have ne_xb_xf : V6.heap.size ≠ W.heap.size := Nat.ne_of_gt xf.lt
        have ne_xb_xa : V6.heap.size ≠ V3.heap.size := Nat.ne_of_gt xa.lt
        have le_xb : W.heap.size ≤ V6.heap.size := hB.size
        replace xf := xf.alloc (.cells #[.string ⟨#[]⟩, .string ⟨#[]⟩, .int .i64 0, .int .i64 0, .int .i64 0, .int .i64 0, .int .u64 0, .bool false, .int .u64 0] 46)
        replace xa := xa.alloc (.cells #[.string ⟨#[]⟩, .string ⟨#[]⟩, .int .i64 0, .int .i64 0, .int .i64 0, .int .i64 0, .int .u64 0, .bool false, .int .u64 0] 46)
        replace h2 := h2.alloc (.cells #[.string ⟨#[]⟩, .string ⟨#[]⟩, .int .i64 0, .int .i64 0, .int .i64 0, .int .i64 0, .int .u64 0, .bool false, .int .u64 0] 46)
        replace hB := hB.alloc hB.size (.cells #[.string ⟨#[]⟩, .string ⟨#[]⟩, .int .i64 0, .int .i64 0, .int .i64 0, .int .i64 0, .int .u64 0, .bool false, .int .u64 0] 46)
        obtain ⟨xf0, xfz0, xf1, xfz1, xf2, xfz2, xf3, xfz3, xf4, xfz4⟩ := xf.f5
        obtain ⟨xa0, xaz0, xa1, xaz1, xa2, xaz2, xa3, xaz3, xa4, xaz4, xa5, xaz5, xa6, xaz6, xa7, xaz7, xa8, xaz8⟩ := xa.f9
        obtain ⟨xb0, xbz0, xb1, xbz1, xb2, xbz2, xb3, xbz3, xb4, xbz4, xb5, xbz5, xb6, xbz6, xb7, xbz7, xb8, xbz8⟩ := xb.f9
        generalize (V6.alloc (.cells #[.string ⟨#[]⟩, .string ⟨#[]⟩, .int .i64 0, .int .i64 0, .int .i64 0, .int .i64 0, .int .u64 0, .bool false, .int .u64 0] 46)) = V7 at *
        generalize V6.heap.size = g_xb at *
        clear xf0 xfz0 xf1 xfz1 xf2 xfz2 xf3 xfz3 xf4 xfz4 xa0 xaz0 xa1 xaz1 xa2 xaz2 xa3 xaz3 xa4 xaz4 xa5 xaz5 xa6 xaz6 xa7 xaz7 xa8 xaz8 xb0 xbz0 xb1 xbz1 xb2 xbz2 xb3 xbz3 xb4 xbz4 xb5 xbz5 xb6 xbz6 xb7 xbz7 xb8 xbz8
        clear hHeld
        refine hK.out _ _ ?_ (fun hHeld => ?_)
        · exact ⟨xf.cell 0 rfl, xf.cell 1 rfl, xf.cell 2 rfl, xf.cell 3 rfl, xf.cell 4 rfl⟩
        clear hK K
        try simp only [Act.put, l1, l2, l3, l4, l5, l6]
        refine wpAnyH_ready (rs := [3]) (by kernel_rfl) (by simp) ?_
        refine AllReadyH.cons rfl (fun K hK => ?_) (AllReadyH.nil)
        obtain ⟨xf0, xfz0, xf1, xfz1, xf2, xfz2, xf3, xfz3, xf4, xfz4⟩ := xf.f5
        obtain ⟨xa0, xaz0, xa1, xaz1, xa2, xaz2, xa3, xaz3, xa4, xaz4, xa5, xaz5, xa6, xaz6, xa7, xaz7, xa8, xaz8⟩ := xa.f9
        obtain ⟨xb0, xbz0, xb1, xbz1, xb2, xbz2, xb3, xbz3, xb4, xbz4, xb5, xbz5, xb6, xbz6, xb7, xbz7, xb8, xbz8⟩ := xb.f9
        go_simp
        refine (TQ.out A2 c2 _ h2 hc2.out).mono ?_
        rintro e V8 ⟨rfl, hk⟩
        clear xf0 xfz0 xf1 xfz1 xf2 xfz2 xf3 xfz3 xf4 xfz4 xa0 xaz0 xa1 xaz1 xa2 xaz2 xa3 xaz3 xa4 xaz4 xa5 xaz5 xa6 xaz6 xa7 xaz7 xa8 xaz8 xb0 xbz0 xb1 xbz1 xb2 xbz2 xb3 xbz3 xb4 xbz4 xb5 xbz5 xb6 xbz6 xb7 xbz7 xb8 xbz8
        clear h2
        replace hB := below_seq hB hk
        replace xf := xf.seq hk
        replace xa := xa.seq hk
        replace xb := xb.seq hk
        clear hk
        obtain ⟨xf0, xfz0, xf1, xfz1, xf2, xfz2, xf3, xfz3, xf4, xfz4⟩ := xf.f5
        obtain ⟨xa0, xaz0, xa1, xaz1, xa2, xaz2, xa3, xaz3, xa4, xaz4, xa5, xaz5, xa6, xaz6, xa7, xaz7, xa8, xaz8⟩ := xa.f9
        obtain ⟨xb0, xbz0, xb1, xbz1, xb2, xbz2, xb3, xbz3, xb4, xbz4, xb5, xbz5, xb6, xbz6, xb7, xbz7, xb8, xbz8⟩ := xb.f9
        try go_wp2_with fail
        clear xf0 xfz0 xf1 xfz1 xf2 xfz2 xf3 xfz3 xf4 xfz4 xa0 xaz0 xa1 xaz1 xa2 xaz2 xa3 xaz3 xa4 xaz4 xa5 xaz5 xa6 xaz6 xa7 xaz7 xa8 xaz8 xb0 xbz0 xb1 xbz1 xb2 xbz2 xb3 xbz3 xb4 xbz4 xb5 xbz5 xb6 xbz6 xb7 xbz7 xb8 xbz8
        clear hHeld
        refine hK.out _ _ ?_ (fun hHeld => ?_)
        · exact ⟨xf.cell 0 rfl, xf.cell 1 rfl, xf.cell 2 rfl, xf.cell 3 rfl, xf.cell 4 rfl⟩
        clear hK K
        try simp only [Act.put, l1, l2, l3, l4, l5, l6]
        refine wpAnyH_ready (rs := [5]) (by kernel_rfl) (by simp) ?_
        refine AllReadyH.cons rfl (fun K hK => ?_) (AllReadyH.nil)
        obtain ⟨xf0, xfz0, xf1, xfz1, xf2, xfz2, xf3, xfz3, xf4, xfz4⟩ := xf.f5
        obtain ⟨xa0, xaz0, xa1, xaz1, xa2, xaz2, xa3, xaz3, xa4, xaz4, xa5, xaz5, xa6, xaz6, xa7, xaz7, xa8, xaz8⟩ := xa.f9
        obtain ⟨xb0, xbz0, xb1, xbz1, xb2, xbz2, xb3, xbz3, xb4, xbz4, xb5, xbz5, xb6, xbz6, xb7, xbz7, xb8, xbz8⟩ := xb.f9
        go_simp
        try go_wp2_with fail
        clear xf0 xfz0 xf1 xfz1 xf2 xfz2 xf3 xfz3 xf4 xfz4 xa0 xaz0 xa1 xaz1 xa2 xaz2 xa3 xaz3 xa4 xaz4 xa5 xaz5 xa6 xaz6 xa7 xaz7 xa8 xaz8 xb0 xbz0 xb1 xbz1 xb2 xbz2 xb3 xbz3 xb4 xbz4 xb5 xbz5 xb6 xbz6 xb7 xbz7 xb8 xbz8
        replace xf := (((((((((xf.other ne_xb_xf 0 (.string x.f.b0)).other ne_xb_xf 1 (.string x.f.b1)).other ne_xb_xf 2 (.int .i64 x.f.e0)).other ne_xb_xf 3 (.int .i64 x.f.e1)).other ne_xb_xf 4 (.int .i64 x.f.lim)).other ne_xb_xf 5 (.int .i64 x.acked)).other ne_xb_xf 6 (.int .u64 (x.last : Int))).other ne_xb_xf 7 (.bool x.flying)).other ne_xb_xf 8 (.int .u64 (x.flight : Int)))
        replace xa := (((((((((xa.other ne_xb_xa 0 (.string x.f.b0)).other ne_xb_xa 1 (.string x.f.b1)).other ne_xb_xa 2 (.int .i64 x.f.e0)).other ne_xb_xa 3 (.int .i64 x.f.e1)).other ne_xb_xa 4 (.int .i64 x.f.lim)).other ne_xb_xa 5 (.int .i64 x.acked)).other ne_xb_xa 6 (.int .u64 (x.last : Int))).other ne_xb_xa 7 (.bool x.flying)).other ne_xb_xa 8 (.int .u64 (x.flight : Int)))
        replace xb : Box 46 (((((((((V8.setCell ⟨g_xb, 0, none⟩ (.string x.f.b0)).setCell ⟨g_xb, 1, none⟩ (.string x.f.b1)).setCell ⟨g_xb, 2, none⟩ (.int .i64 x.f.e0)).setCell ⟨g_xb, 3, none⟩ (.int .i64 x.f.e1)).setCell ⟨g_xb, 4, none⟩ (.int .i64 x.f.lim)).setCell ⟨g_xb, 5, none⟩ (.int .i64 x.acked)).setCell ⟨g_xb, 6, none⟩ (.int .u64 (x.last : Int))).setCell ⟨g_xb, 7, none⟩ (.bool x.flying)).setCell ⟨g_xb, 8, none⟩ (.int .u64 (x.flight : Int))) (g_xb) [.string x.f.b0, .string x.f.b1, .int .i64 x.f.e0, .int .i64 x.f.e1, .int .i64 x.f.lim, .int .i64 x.acked, .int .u64 (x.last : Int), .bool x.flying, .int .u64 (x.flight : Int)] := (((((((((xb.set 0 (.string x.f.b0)).set 1 (.string x.f.b1)).set 2 (.int .i64 x.f.e0)).set 3 (.int .i64 x.f.e1)).set 4 (.int .i64 x.f.lim)).set 5 (.int .i64 x.acked)).set 6 (.int .u64 (x.last : Int))).set 7 (.bool x.flying)).set 8 (.int .u64 (x.flight : Int)))
        replace hB : Below W.heap.size W (((((((((V8.setCell ⟨g_xb, 0, none⟩ (.string x.f.b0)).setCell ⟨g_xb, 1, none⟩ (.string x.f.b1)).setCell ⟨g_xb, 2, none⟩ (.int .i64 x.f.e0)).setCell ⟨g_xb, 3, none⟩ (.int .i64 x.f.e1)).setCell ⟨g_xb, 4, none⟩ (.int .i64 x.f.lim)).setCell ⟨g_xb, 5, none⟩ (.int .i64 x.acked)).setCell ⟨g_xb, 6, none⟩ (.int .u64 (x.last : Int))).setCell ⟨g_xb, 7, none⟩ (.bool x.flying)).setCell ⟨g_xb, 8, none⟩ (.int .u64 (x.flight : Int))) := (((((((((hB.setCell le_xb _).setCell le_xb _).setCell le_xb _).setCell le_xb _).setCell le_xb _).setCell le_xb _).setCell le_xb _).setCell le_xb _).setCell le_xb _)
        generalize (((((((((V8.setCell ⟨g_xb, 0, none⟩ (.string x.f.b0)).setCell ⟨g_xb, 1, none⟩ (.string x.f.b1)).setCell ⟨g_xb, 2, none⟩ (.int .i64 x.f.e0)).setCell ⟨g_xb, 3, none⟩ (.int .i64 x.f.e1)).setCell ⟨g_xb, 4, none⟩ (.int .i64 x.f.lim)).setCell ⟨g_xb, 5, none⟩ (.int .i64 x.acked)).setCell ⟨g_xb, 6, none⟩ (.int .u64 (x.last : Int))).setCell ⟨g_xb, 7, none⟩ (.bool x.flying)).setCell ⟨g_xb, 8, none⟩ (.int .u64 (x.flight : Int))) = V9 at *
        clear hHeld
        refine hK.out _ _ ?_ (fun hHeld => ?_)
        · exact ⟨xf.cell 0 rfl, xf.cell 1 rfl, xf.cell 2 rfl, xf.cell 3 rfl, xf.cell 4 rfl⟩
        clear hK K
        try simp only [Act.put, l1, l2, l3, l4, l5, l6]
        refine wpAnyH_done (by kernel_rfl) ?_ _
        clear hHeld
        obtain ⟨xf0, xfz0, xf1, xfz1, xf2, xfz2, xf3, xfz3, xf4, xfz4⟩ := xf.f5
        obtain ⟨xa0, xaz0, xa1, xaz1, xa2, xaz2, xa3, xaz3, xa4, xaz4, xa5, xaz5, xa6, xaz6, xa7, xaz7, xa8, xaz8⟩ := xa.f9
        obtain ⟨xb0, xbz0, xb1, xbz1, xb2, xbz2, xb3, xbz3, xb4, xbz4, xb5, xbz5, xb6, xbz6, xb7, xbz7, xb8, xbz8⟩ := xb.f9
        go_wp2_with fail
        refine (TS.out _).mono ?_
        rintro e V10 ⟨rfl, hk⟩
        clear xf0 xfz0 xf1 xfz1 xf2 xfz2 xf3 xfz3 xf4 xfz4 xa0 xaz0 xa1 xaz1 xa2 xaz2 xa3 xaz3 xa4 xaz4 xa5 xaz5 xa6 xaz6 xa7 xaz7 xa8 xaz8 xb0 xbz0 xb1 xbz1 xb2 xbz2 xb3 xbz3 xb4 xbz4 xb5 xbz5 xb6 xbz6 xb7 xbz7 xb8 xbz8
        replace hB := below_seq hB hk
        replace xf := xf.seq hk
        replace xa := xa.seq hk
        replace xb := xb.seq hk
        clear hk
        obtain ⟨xf0, xfz0, xf1, xfz1, xf2, xfz2, xf3, xfz3, xf4, xfz4⟩ := xf.f5
        obtain ⟨xa0, xaz0, xa1, xaz1, xa2, xaz2, xa3, xaz3, xa4, xaz4, xa5, xaz5, xa6, xaz6, xa7, xaz7, xa8, xaz8⟩ := xa.f9
        obtain ⟨xb0, xbz0, xb1, xbz1, xb2, xbz2, xb3, xbz3, xb4, xbz4, xb5, xbz5, xb6, xbz6, xb7, xbz7, xb8, xbz8⟩ := xb.f9
        go_wp2_with fail
        refine (TU.out _).mono ?_
        rintro e V11 ⟨rfl, hk⟩
        clear xf0 xfz0 xf1 xfz1 xf2 xfz2 xf3 xfz3 xf4 xfz4 xa0 xaz0 xa1 xaz1 xa2 xaz2 xa3 xaz3 xa4 xaz4 xa5 xaz5 xa6 xaz6 xa7 xaz7 xa8 xaz8 xb0 xbz0 xb1 xbz1 xb2 xbz2 xb3 xbz3 xb4 xbz4 xb5 xbz5 xb6 xbz6 xb7 xbz7 xb8 xbz8
        replace hB := below_seq hB hk
        replace xf := xf.seq hk
        replace xa := xa.seq hk
        replace xb := xb.seq hk
        clear hk
        obtain ⟨xf0, xfz0, xf1, xfz1, xf2, xfz2, xf3, xfz3, xf4, xfz4⟩ := xf.f5
        obtain ⟨xa0, xaz0, xa1, xaz1, xa2, xaz2, xa3, xaz3, xa4, xaz4, xa5, xaz5, xa6, xaz6, xa7, xaz7, xa8, xaz8⟩ := xa.f9
        obtain ⟨xb0, xbz0, xb1, xbz1, xb2, xbz2, xb3, xbz3, xb4, xbz4, xb5, xbz5, xb6, xbz6, xb7, xbz7, xb8, xbz8⟩ := xb.f9
        go_wp2_with fail
        clear xf0 xfz0 xf1 xfz1 xf2 xfz2 xf3 xfz3 xf4 xfz4 xa0 xaz0 xa1 xaz1 xa2 xaz2 xa3 xaz3 xa4 xaz4 xa5 xaz5 xa6 xaz6 xa7 xaz7 xa8 xaz8 xb0 xbz0 xb1 xbz1 xb2 xbz2 xb3 xbz3 xb4 xbz4 xb5 xbz5 xb6 xbz6 xb7 xbz7 xb8 xbz8
        replace hB := hB.drew
        replace xf := xf.drew
        replace xa := xa.drew
        replace xb := xb.drew
        refine wp_region_held_drew (S := fun w' => w'.cell? ⟨V3.heap.size, 0, none⟩ = some (.string x.f.b0) ∧ w'.cell? ⟨V3.heap.size, 1, none⟩ = some (.string x.f.b1) ∧ w'.cell? ⟨V3.heap.size, 2, none⟩ = some (.int .i64 x.f.e0) ∧ w'.cell? ⟨V3.heap.size, 3, none⟩ = some (.int .i64 x.f.e1) ∧ w'.cell? ⟨V3.heap.size, 4, none⟩ = some (.int .i64 x.f.lim) ∧ w'.cell? ⟨V3.heap.size, 5, none⟩ = some (.int .i64 x.acked) ∧ w'.cell? ⟨V3.heap.size, 6, none⟩ = some (.int .u64 (x.last : Int)) ∧ w'.cell? ⟨V3.heap.size, 7, none⟩ = some (.bool x.flying) ∧ w'.cell? ⟨V3.heap.size, 8, none⟩ = some (.int .u64 (x.flight : Int)) ∧ w'.cell? ⟨g_xb, 0, none⟩ = some (.string x.f.b0) ∧ w'.cell? ⟨g_xb, 1, none⟩ = some (.string x.f.b1) ∧ w'.cell? ⟨g_xb, 2, none⟩ = some (.int .i64 x.f.e0) ∧ w'.cell? ⟨g_xb, 3, none⟩ = some (.int .i64 x.f.e1) ∧ w'.cell? ⟨g_xb, 4, none⟩ = some (.int .i64 x.f.lim) ∧ w'.cell? ⟨g_xb, 5, none⟩ = some (.int .i64 x.acked) ∧ w'.cell? ⟨g_xb, 6, none⟩ = some (.int .u64 (x.last : Int)) ∧ w'.cell? ⟨g_xb, 7, none⟩ = some (.bool x.flying) ∧ w'.cell? ⟨g_xb, 8, none⟩ = some (.int .u64 (x.flight : Int))) (by kernel_rfl) ?_ (fun hHeld => ?_)
        · exact ⟨xa.cell 0 rfl, xa.cell 1 rfl, xa.cell 2 rfl, xa.cell 3 rfl, xa.cell 4 rfl, xa.cell 5 rfl, xa.cell 6 rfl, xa.cell 7 rfl, xa.cell 8 rfl, xb.cell 0 rfl, xb.cell 1 rfl, xb.cell 2 rfl, xb.cell 3 rfl, xb.cell 4 rfl, xb.cell 5 rfl, xb.cell 6 rfl, xb.cell 7 rfl, xb.cell 8 rfl⟩
        generalize V11.drew = V12 at *
        refine tk 0 (v := ?_) rfl (Or.inl ⟨by rfl, ?_⟩) ?_; rotate_left
        · intro w hSw; (try dsimp only at hSw); go_simp; try with_reducible rfl
        try simp only [Act.put, l1, l2, l3, l4, l5, l6]
        refine tk 2 (v := ?_) rfl (Or.inl ⟨by rfl, ?_⟩) ?_; rotate_left
        · intro w hSw; (try dsimp only at hSw); go_simp; try with_reducible rfl
        try simp only [Act.put, l1, l2, l3, l4, l5, l6]
        refine wpAnyH_ready (rs := [1]) (by kernel_rfl) (by simp) ?_
        refine AllReadyH.cons rfl (fun K hK => ?_) AllReadyH.nil
        obtain ⟨xf0, xfz0, xf1, xfz1, xf2, xfz2, xf3, xfz3, xf4, xfz4⟩ := xf.f5
        obtain ⟨xa0, xaz0, xa1, xaz1, xa2, xaz2, xa3, xaz3, xa4, xaz4, xa5, xaz5, xa6, xaz6, xa7, xaz7, xa8, xaz8⟩ := xa.f9
        obtain ⟨xb0, xbz0, xb1, xbz1, xb2, xbz2, xb3, xbz3, xb4, xbz4, xb5, xbz5, xb6, xbz6, xb7, xbz7, xb8, xbz8⟩ := xb.f9
        go_simp
        refine (TL.out _).mono ?_
        rintro e V13 ⟨rfl, hk⟩
        clear xf0 xfz0 xf1 xfz1 xf2 xfz2 xf3 xfz3 xf4 xfz4 xa0 xaz0 xa1 xaz1 xa2 xaz2 xa3 xaz3 xa4 xaz4 xa5 xaz5 xa6 xaz6 xa7 xaz7 xa8 xaz8 xb0 xbz0 xb1 xbz1 xb2 xbz2 xb3 xbz3 xb4 xbz4 xb5 xbz5 xb6 xbz6 xb7 xbz7 xb8 xbz8
        replace hB := below_seq hB hk
        replace xf := xf.seq hk
        replace xa := xa.seq hk
        replace xb := xb.seq hk
        clear hk
        obtain ⟨xf0, xfz0, xf1, xfz1, xf2, xfz2, xf3, xfz3, xf4, xfz4⟩ := xf.f5
        obtain ⟨xa0, xaz0, xa1, xaz1, xa2, xaz2, xa3, xaz3, xa4, xaz4, xa5, xaz5, xa6, xaz6, xa7, xaz7, xa8, xaz8⟩ := xa.f9
        obtain ⟨xb0, xbz0, xb1, xbz1, xb2, xbz2, xb3, xbz3, xb4, xbz4, xb5, xbz5, xb6, xbz6, xb7, xbz7, xb8, xbz8⟩ := xb.f9
        try go_wp2_with fail
        clear xf0 xfz0 xf1 xfz1 xf2 xfz2 xf3 xfz3 xf4 xfz4 xa0 xaz0 xa1 xaz1 xa2 xaz2 xa3 xaz3 xa4 xaz4 xa5 xaz5 xa6 xaz6 xa7 xaz7 xa8 xaz8 xb0 xbz0 xb1 xbz1 xb2 xbz2 xb3 xbz3 xb4 xbz4 xb5 xbz5 xb6 xbz6 xb7 xbz7 xb8 xbz8
        clear hHeld
        refine hK.out _ _ ?_ (fun hHeld => ?_)
        · exact ⟨xa.cell 0 rfl, xa.cell 1 rfl, xa.cell 2 rfl, xa.cell 3 rfl, xa.cell 4 rfl, xa.cell 5 rfl, xa.cell 6 rfl, xa.cell 7 rfl, xa.cell 8 rfl, xb.cell 0 rfl, xb.cell 1 rfl, xb.cell 2 rfl, xb.cell 3 rfl, xb.cell 4 rfl, xb.cell 5 rfl, xb.cell 6 rfl, xb.cell 7 rfl, xb.cell 8 rfl⟩
        clear hK K
        try simp only [Act.put, l1, l2, l3, l4, l5, l6]
        refine tk 3 (v := ?_) rfl (Or.inl ⟨by rfl, ?_⟩) ?_; rotate_left
        · intro w hSw; (try dsimp only at hSw); go_simp; try with_reducible rfl
        try simp only [Act.put, l1, l2, l3, l4, l5, l6]
        refine tk 4 (v := ?_) rfl (Or.inl ⟨by rfl, ?_⟩) ?_; rotate_left
        · intro w hSw; (try dsimp only at hSw); go_simp; try with_reducible rfl
        try simp only [Act.put, l1, l2, l3, l4, l5, l6]
        refine tk 5 (v := ?_) rfl (Or.inl ⟨by rfl, ?_⟩) ?_; rotate_left
        · intro w hSw; (try dsimp only at hSw); go_simp; try with_reducible rfl
        try simp only [Act.put, l1, l2, l3, l4, l5, l6]
        refine tk 6 (v := ?_) rfl (Or.inl ⟨by rfl, ?_⟩) ?_; rotate_left
        · intro w hSw; (try dsimp only at hSw); go_simp; try with_reducible rfl
        try simp only [Act.put, l1, l2, l3, l4, l5, l6]
        refine tk 7 (v := ?_) rfl (Or.inl ⟨by rfl, ?_⟩) ?_; rotate_left
        · intro w hSw; (try dsimp only at hSw); go_simp; try with_reducible rfl
        try simp only [Act.put, l1, l2, l3, l4, l5, l6]
        refine tk 8 (v := ?_) rfl (Or.inl ⟨by rfl, ?_⟩) ?_; rotate_left
        · intro w hSw; (try dsimp only at hSw); go_simp; try with_reducible rfl
        try simp only [Act.put, l1, l2, l3, l4, l5, l6]
        refine tk 9 (v := ?_) rfl (Or.inl ⟨by rfl, ?_⟩) ?_; rotate_left
        · intro w hSw; (try dsimp only at hSw); go_simp; try with_reducible rfl
        try simp only [Act.put, l1, l2, l3, l4, l5, l6]
        refine tk 10 (v := ?_) rfl (Or.inl ⟨by rfl, ?_⟩) ?_; rotate_left
        · intro w hSw; (try dsimp only at hSw); go_simp; try with_reducible rfl
        try simp only [Act.put, l1, l2, l3, l4, l5, l6]
        refine tk 11 (v := ?_) rfl (Or.inl ⟨by rfl, ?_⟩) ?_; rotate_left
        · intro w hSw; (try dsimp only at hSw); go_simp; try with_reducible rfl
        try simp only [Act.put, l1, l2, l3, l4, l5, l6]
        refine tk 12 (v := ?_) rfl (Or.inl ⟨by rfl, ?_⟩) ?_; rotate_left
        · intro w hSw; (try dsimp only at hSw); go_simp; try with_reducible rfl
        try simp only [Act.put, l1, l2, l3, l4, l5, l6]
        refine tk 13 (v := ?_) rfl (Or.inl ⟨by rfl, ?_⟩) ?_; rotate_left
        · intro w hSw; (try dsimp only at hSw); go_simp; try with_reducible rfl
        try simp only [Act.put, l1, l2, l3, l4, l5, l6]
        refine tk 14 (v := ?_) rfl (Or.inl ⟨by rfl, ?_⟩) ?_; rotate_left
        · intro w hSw; (try dsimp only at hSw); go_simp; try with_reducible rfl
        try simp only [Act.put, l1, l2, l3, l4, l5, l6]
        refine wpAnyH_done (by kernel_rfl) ?_ _
        clear hHeld
        obtain ⟨xf0, xfz0, xf1, xfz1, xf2, xfz2, xf3, xfz3, xf4, xfz4⟩ := xf.f5
        obtain ⟨xa0, xaz0, xa1, xaz1, xa2, xaz2, xa3, xaz3, xa4, xaz4, xa5, xaz5, xa6, xaz6, xa7, xaz7, xa8, xaz8⟩ := xa.f9
        obtain ⟨xb0, xbz0, xb1, xbz1, xb2, xbz2, xb3, xbz3, xb4, xbz4, xb5, xbz5, xb6, xbz6, xb7, xbz7, xb8, xbz8⟩ := xb.f9
        go_wp2
        go_ret
        exact ⟨rfl, hB⟩
    · have xf0 := xf.cell 0 rfl
      have xfz0 := xf.frozen 0
      have xf1 := xf.cell 1 rfl
      have xfz1 := xf.frozen 1
      have xf2 := xf.cell 2 rfl
      have xfz2 := xf.frozen 2
      have xf3 := xf.cell 3 rfl
      have xfz3 := xf.frozen 3
      have xf4 := xf.cell 4 rfl
      have xfz4 := xf.frozen 4
      obtain ⟨xa0, xaz0, xa1, xaz1, xa2, xaz2, xa3, xaz3, xa4, xaz4, xa5, xaz5, xa6, xaz6, xa7, xaz7, xa8, xaz8⟩ := xa.f9
      go_simp
      try go_wp2_with fail
      clear xf0 xfz0 xf1 xfz1 xf2 xfz2 xf3 xfz3 xf4 xfz4 xa0 xaz0 xa1 xaz1 xa2 xaz2 xa3 xaz3 xa4 xaz4 xa5 xaz5 xa6 xaz6 xa7 xaz7 xa8 xaz8
      have xb := Box.new 46 V5 [.string ⟨#[]⟩, .string ⟨#[]⟩, .int .i64 0, .int .i64 0, .int .i64 0, .int .i64 0, .int .u64 0, .bool false, .int .u64 0]
      have ne_xb_xf : V5.heap.size ≠ W.heap.size := Nat.ne_of_gt xf.lt
      have ne_xb_xa : V5.heap.size ≠ V3.heap.size := Nat.ne_of_gt xa.lt
      have le_xb : W.heap.size ≤ V5.heap.size := hB.size
      replace xf := xf.alloc (.cells #[.string ⟨#[]⟩, .string ⟨#[]⟩, .int .i64 0, .int .i64 0, .int .i64 0, .int .i64 0, .int .u64 0, .bool false, .int .u64 0] 46)
      replace xa := xa.alloc (.cells #[.string ⟨#[]⟩, .string ⟨#[]⟩, .int .i64 0, .int .i64 0, .int .i64 0, .int .i64 0, .int .u64 0, .bool false, .int .u64 0] 46)
      replace hB := hB.alloc hB.size (.cells #[.string ⟨#[]⟩, .string ⟨#[]⟩, .int .i64 0, .int .i64 0, .int .i64 0, .int .i64 0, .int .u64 0, .bool false, .int .u64 0] 46)
      obtain ⟨xf0, xfz0, xf1, xfz1, xf2, xfz2, xf3, xfz3, xf4, xfz4⟩ := xf.f5
      obtain ⟨xa0, xaz0, xa1, xaz1, xa2, xaz2, xa3, xaz3, xa4, xaz4, xa5, xaz5, xa6, xaz6, xa7, xaz7, xa8, xaz8⟩ := xa.f9
      obtain ⟨xb0, xbz0, xb1, xbz1, xb2, xbz2, xb3, xbz3, xb4, xbz4, xb5, xbz5, xb6, xbz6, xb7, xbz7, xb8, xbz8⟩ := xb.f9
      generalize (V5.alloc (.cells #[.string ⟨#[]⟩, .string ⟨#[]⟩, .int .i64 0, .int .i64 0, .int .i64 0, .int .i64 0, .int .u64 0, .bool false, .int .u64 0] 46)) = V6 at *
      generalize V5.heap.size = g_xb at *
      clear xf0 xfz0 xf1 xfz1 xf2 xfz2 xf3 xfz3 xf4 xfz4 xa0 xaz0 xa1 xaz1 xa2 xaz2 xa3 xaz3 xa4 xaz4 xa5 xaz5 xa6 xaz6 xa7 xaz7 xa8 xaz8 xb0 xbz0 xb1 xbz1 xb2 xbz2 xb3 xbz3 xb4 xbz4 xb5 xbz5 xb6 xbz6 xb7 xbz7 xb8 xbz8
      clear hHeld
      refine hK.out _ _ ?_ (fun hHeld => ?_)
      · exact ⟨xf.cell 0 rfl, xf.cell 1 rfl, xf.cell 2 rfl, xf.cell 3 rfl, xf.cell 4 rfl⟩
      clear hK K
      try simp only [Act.put, l1, l2, l3, l4, l5, l6]
      refine wpAnyH_ready (rs := [2]) (by kernel_rfl) (by simp) ?_
      refine AllReadyH.cons rfl (fun K hK => ?_) (AllReadyH.nil)
      obtain ⟨xf0, xfz0, xf1, xfz1, xf2, xfz2, xf3, xfz3, xf4, xfz4⟩ := xf.f5
      obtain ⟨xa0, xaz0, xa1, xaz1, xa2, xaz2, xa3, xaz3, xa4, xaz4, xa5, xaz5, xa6, xaz6, xa7, xaz7, xa8, xaz8⟩ := xa.f9
      obtain ⟨xb0, xbz0, xb1, xbz1, xb2, xbz2, xb3, xbz3, xb4, xbz4, xb5, xbz5, xb6, xbz6, xb7, xbz7, xb8, xbz8⟩ := xb.f9
      go_simp
      refine (TT.out _ (hlh.out.seq hB)).mono ?_
      rintro e V7 ⟨A2, c2, rfl, h2, hc2, hk⟩
      clear xf0 xfz0 xf1 xfz1 xf2 xfz2 xf3 xfz3 xf4 xfz4 xa0 xaz0 xa1 xaz1 xa2 xaz2 xa3 xaz3 xa4 xaz4 xa5 xaz5 xa6 xaz6 xa7 xaz7 xa8 xaz8 xb0 xbz0 xb1 xbz1 xb2 xbz2 xb3 xbz3 xb4 xbz4 xb5 xbz5 xb6 xbz6 xb7 xbz7 xb8 xbz8
      replace hB := below_seq hB hk
      replace xf := xf.seq hk
      replace xa := xa.seq hk
      replace xb := xb.seq hk
      clear hk
      replace hc2 := Lib.hid hc2
      obtain ⟨xf0, xfz0, xf1, xfz1, xf2, xfz2, xf3, xfz3, xf4, xfz4⟩ := xf.f5
      obtain ⟨xa0, xaz0, xa1, xaz1, xa2, xaz2, xa3, xaz3, xa4, xaz4, xa5, xaz5, xa6, xaz6, xa7, xaz7, xa8, xaz8⟩ := xa.f9
      obtain ⟨xb0, xbz0, xb1, xbz1, xb2, xbz2, xb3, xbz3, xb4, xbz4, xb5, xbz5, xb6, xbz6, xb7, xbz7, xb8, xbz8⟩ := xb.f9
      try go_wp2_with fail
      clear xf0 xfz0 xf1 xfz1 xf2 xfz2 xf3 xfz3 xf4 xfz4 xa0 xaz0 xa1 xaz1 xa2 xaz2 xa3 xaz3 xa4 xaz4 xa5 xaz5 xa6 xaz6 xa7 xaz7 xa8 xaz8 xb0 xbz0 xb1 xbz1 xb2 xbz2 xb3 xbz3 xb4 xbz4 xb5 xbz5 xb6 xbz6 xb7 xbz7 xb8 xbz8
      clear hHeld
      refine hK.out _ _ ?_ (fun hHeld => ?_)
      · exact ⟨xf.cell 0 rfl, xf.cell 1 rfl, xf.cell 2 rfl, xf.cell 3 rfl, xf.cell 4 rfl⟩
      clear hK K
      try simp only [Act.put, l1, l2, l3, l4, l5, l6]
      refine wpAnyH_ready (rs := [3]) (by kernel_rfl) (by simp) ?_
      refine AllReadyH.cons rfl (fun K hK => ?_) (AllReadyH.nil)
      obtain ⟨xf0, xfz0, xf1, xfz1, xf2, xfz2, xf3, xfz3, xf4, xfz4⟩ := xf.f5
      obtain ⟨xa0, xaz0, xa1, xaz1, xa2, xaz2, xa3, xaz3, xa4, xaz4, xa5, xaz5, xa6, xaz6, xa7, xaz7, xa8, xaz8⟩ := xa.f9
      obtain ⟨xb0, xbz0, xb1, xbz1, xb2, xbz2, xb3, xbz3, xb4, xbz4, xb5, xbz5, xb6, xbz6, xb7, xbz7, xb8, xbz8⟩ := xb.f9
      go_simp
      refine (TQ.out A2 c2 _ h2 hc2.out).mono ?_
      rintro e V8 ⟨rfl, hk⟩
      clear xf0 xfz0 xf1 xfz1 xf2 xfz2 xf3 xfz3 xf4 xfz4 xa0 xaz0 xa1 xaz1 xa2 xaz2 xa3 xaz3 xa4 xaz4 xa5 xaz5 xa6 xaz6 xa7 xaz7 xa8 xaz8 xb0 xbz0 xb1 xbz1 xb2 xbz2 xb3 xbz3 xb4 xbz4 xb5 xbz5 xb6 xbz6 xb7 xbz7 xb8 xbz8
      clear h2
      replace hB := below_seq hB hk
      replace xf := xf.seq hk
      replace xa := xa.seq hk
      replace xb := xb.seq hk
      clear hk
      obtain ⟨xf0, xfz0, xf1, xfz1, xf2, xfz2, xf3, xfz3, xf4, xfz4⟩ := xf.f5
      obtain ⟨xa0, xaz0, xa1, xaz1, xa2, xaz2, xa3, xaz3, xa4, xaz4, xa5, xaz5, xa6, xaz6, xa7, xaz7, xa8, xaz8⟩ := xa.f9
      obtain ⟨xb0, xbz0, xb1, xbz1, xb2, xbz2, xb3, xbz3, xb4, xbz4, xb5, xbz5, xb6, xbz6, xb7, xbz7, xb8, xbz8⟩ := xb.f9
      try go_wp2_with fail
      clear xf0 xfz0 xf1 xfz1 xf2 xfz2 xf3 xfz3 xf4 xfz4 xa0 xaz0 xa1 xaz1 xa2 xaz2 xa3 xaz3 xa4 xaz4 xa5 xaz5 xa6 xaz6 xa7 xaz7 xa8 xaz8 xb0 xbz0 xb1 xbz1 xb2 xbz2 xb3 xbz3 xb4 xbz4 xb5 xbz5 xb6 xbz6 xb7 xbz7 xb8 xbz8
      clear hHeld
      refine hK.out _ _ ?_ (fun hHeld => ?_)
      · exact ⟨xf.cell 0 rfl, xf.cell 1 rfl, xf.cell 2 rfl, xf.cell 3 rfl, xf.cell 4 rfl⟩
      clear hK K
      try simp only [Act.put, l1, l2, l3, l4, l5, l6]
      refine wpAnyH_ready (rs := [5]) (by kernel_rfl) (by simp) ?_
      refine AllReadyH.cons rfl (fun K hK => ?_) (AllReadyH.nil)
      obtain ⟨xf0, xfz0, xf1, xfz1, xf2, xfz2, xf3, xfz3, xf4, xfz4⟩ := xf.f5
      obtain ⟨xa0, xaz0, xa1, xaz1, xa2, xaz2, xa3, xaz3, xa4, xaz4, xa5, xaz5, xa6, xaz6, xa7, xaz7, xa8, xaz8⟩ := xa.f9
      obtain ⟨xb0, xbz0, xb1, xbz1, xb2, xbz2, xb3, xbz3, xb4, xbz4, xb5, xbz5, xb6, xbz6, xb7, xbz7, xb8, xbz8⟩ := xb.f9
      go_simp
      try go_wp2_with fail
      clear xf0 xfz0 xf1 xfz1 xf2 xfz2 xf3 xfz3 xf4 xfz4 xa0 xaz0 xa1 xaz1 xa2 xaz2 xa3 xaz3 xa4 xaz4 xa5 xaz5 xa6 xaz6 xa7 xaz7 xa8 xaz8 xb0 xbz0 xb1 xbz1 xb2 xbz2 xb3 xbz3 xb4 xbz4 xb5 xbz5 xb6 xbz6 xb7 xbz7 xb8 xbz8
      replace xf := (((((((((xf.other ne_xb_xf 0 (.string x.f.b0)).other ne_xb_xf 1 (.string x.f.b1)).other ne_xb_xf 2 (.int .i64 x.f.e0)).other ne_xb_xf 3 (.int .i64 x.f.e1)).other ne_xb_xf 4 (.int .i64 x.f.lim)).other ne_xb_xf 5 (.int .i64 x.acked)).other ne_xb_xf 6 (.int .u64 (x.last : Int))).other ne_xb_xf 7 (.bool x.flying)).other ne_xb_xf 8 (.int .u64 (x.flight : Int)))
      replace xa := (((((((((xa.other ne_xb_xa 0 (.string x.f.b0)).other ne_xb_xa 1 (.string x.f.b1)).other ne_xb_xa 2 (.int .i64 x.f.e0)).other ne_xb_xa 3 (.int .i64 x.f.e1)).other ne_xb_xa 4 (.int .i64 x.f.lim)).other ne_xb_xa 5 (.int .i64 x.acked)).other ne_xb_xa 6 (.int .u64 (x.last : Int))).other ne_xb_xa 7 (.bool x.flying)).other ne_xb_xa 8 (.int .u64 (x.flight : Int)))
      replace xb : Box 46 (((((((((V8.setCell ⟨g_xb, 0, none⟩ (.string x.f.b0)).setCell ⟨g_xb, 1, none⟩ (.string x.f.b1)).setCell ⟨g_xb, 2, none⟩ (.int .i64 x.f.e0)).setCell ⟨g_xb, 3, none⟩ (.int .i64 x.f.e1)).setCell ⟨g_xb, 4, none⟩ (.int .i64 x.f.lim)).setCell ⟨g_xb, 5, none⟩ (.int .i64 x.acked)).setCell ⟨g_xb, 6, none⟩ (.int .u64 (x.last : Int))).setCell ⟨g_xb, 7, none⟩ (.bool x.flying)).setCell ⟨g_xb, 8, none⟩ (.int .u64 (x.flight : Int))) (g_xb) [.string x.f.b0, .string x.f.b1, .int .i64 x.f.e0, .int .i64 x.f.e1, .int .i64 x.f.lim, .int .i64 x.acked, .int .u64 (x.last : Int), .bool x.flying, .int .u64 (x.flight : Int)] := (((((((((xb.set 0 (.string x.f.b0)).set 1 (.string x.f.b1)).set 2 (.int .i64 x.f.e0)).set 3 (.int .i64 x.f.e1)).set 4 (.int .i64 x.f.lim)).set 5 (.int .i64 x.acked)).set 6 (.int .u64 (x.last : Int))).set 7 (.bool x.flying)).set 8 (.int .u64 (x.flight : Int)))
      replace hB : Below W.heap.size W (((((((((V8.setCell ⟨g_xb, 0, none⟩ (.string x.f.b0)).setCell ⟨g_xb, 1, none⟩ (.string x.f.b1)).setCell ⟨g_xb, 2, none⟩ (.int .i64 x.f.e0)).setCell ⟨g_xb, 3, none⟩ (.int .i64 x.f.e1)).setCell ⟨g_xb, 4, none⟩ (.int .i64 x.f.lim)).setCell ⟨g_xb, 5, none⟩ (.int .i64 x.acked)).setCell ⟨g_xb, 6, none⟩ (.int .u64 (x.last : Int))).setCell ⟨g_xb, 7, none⟩ (.bool x.flying)).setCell ⟨g_xb, 8, none⟩ (.int .u64 (x.flight : Int))) := (((((((((hB.setCell le_xb _).setCell le_xb _).setCell le_xb _).setCell le_xb _).setCell le_xb _).setCell le_xb _).setCell le_xb _).setCell le_xb _).setCell le_xb _)
      generalize (((((((((V8.setCell ⟨g_xb, 0, none⟩ (.string x.f.b0)).setCell ⟨g_xb, 1, none⟩ (.string x.f.b1)).setCell ⟨g_xb, 2, none⟩ (.int .i64 x.f.e0)).setCell ⟨g_xb, 3, none⟩ (.int .i64 x.f.e1)).setCell ⟨g_xb, 4, none⟩ (.int .i64 x.f.lim)).setCell ⟨g_xb, 5, none⟩ (.int .i64 x.acked)).setCell ⟨g_xb, 6, none⟩ (.int .u64 (x.last : Int))).setCell ⟨g_xb, 7, none⟩ (.bool x.flying)).setCell ⟨g_xb, 8, none⟩ (.int .u64 (x.flight : Int))) = V9 at *
      clear hHeld
      refine hK.out _ _ ?_ (fun hHeld => ?_)
      · exact ⟨xf.cell 0 rfl, xf.cell 1 rfl, xf.cell 2 rfl, xf.cell 3 rfl, xf.cell 4 rfl⟩
      clear hK K
      try simp only [Act.put, l1, l2, l3, l4, l5, l6]
      refine wpAnyH_done (by kernel_rfl) ?_ _
      clear hHeld
      obtain ⟨xf0, xfz0, xf1, xfz1, xf2, xfz2, xf3, xfz3, xf4, xfz4⟩ := xf.f5
      obtain ⟨xa0, xaz0, xa1, xaz1, xa2, xaz2, xa3, xaz3, xa4, xaz4, xa5, xaz5, xa6, xaz6, xa7, xaz7, xa8, xaz8⟩ := xa.f9
      obtain ⟨xb0, xbz0, xb1, xbz1, xb2, xbz2, xb3, xbz3, xb4, xbz4, xb5, xbz5, xb6, xbz6, xb7, xbz7, xb8, xbz8⟩ := xb.f9
      go_wp2_with fail
      refine (TS.out _).mono ?_
      rintro e V10 ⟨rfl, hk⟩
      clear xf0 xfz0 xf1 xfz1 xf2 xfz2 xf3 xfz3 xf4 xfz4 xa0 xaz0 xa1 xaz1 xa2 xaz2 xa3 xaz3 xa4 xaz4 xa5 xaz5 xa6 xaz6 xa7 xaz7 xa8 xaz8 xb0 xbz0 xb1 xbz1 xb2 xbz2 xb3 xbz3 xb4 xbz4 xb5 xbz5 xb6 xbz6 xb7 xbz7 xb8 xbz8
      replace hB := below_seq hB hk
      replace xf := xf.seq hk
      replace xa := xa.seq hk
      replace xb := xb.seq hk
      clear hk
      obtain ⟨xf0, xfz0, xf1, xfz1, xf2, xfz2, xf3, xfz3, xf4, xfz4⟩ := xf.f5
      obtain ⟨xa0, xaz0, xa1, xaz1, xa2, xaz2, xa3, xaz3, xa4, xaz4, xa5, xaz5, xa6, xaz6, xa7, xaz7, xa8, xaz8⟩ := xa.f9
      obtain ⟨xb0, xbz0, xb1, xbz1, xb2, xbz2, xb3, xbz3, xb4, xbz4, xb5, xbz5, xb6, xbz6, xb7, xbz7, xb8, xbz8⟩ := xb.f9
      go_wp2_with fail
      refine (TU.out _).mono ?_
      rintro e V11 ⟨rfl, hk⟩
      clear xf0 xfz0 xf1 xfz1 xf2 xfz2 xf3 xfz3 xf4 xfz4 xa0 xaz0 xa1 xaz1 xa2 xaz2 xa3 xaz3 xa4 xaz4 xa5 xaz5 xa6 xaz6 xa7 xaz7 xa8 xaz8 xb0 xbz0 xb1 xbz1 xb2 xbz2 xb3 xbz3 xb4 xbz4 xb5 xbz5 xb6 xbz6 xb7 xbz7 xb8 xbz8
      replace hB := below_seq hB hk
      replace xf := xf.seq hk
      replace xa := xa.seq hk
      replace xb := xb.seq hk
      clear hk
      obtain ⟨xf0, xfz0, xf1, xfz1, xf2, xfz2, xf3, xfz3, xf4, xfz4⟩ := xf.f5
      obtain ⟨xa0, xaz0, xa1, xaz1, xa2, xaz2, xa3, xaz3, xa4, xaz4, xa5, xaz5, xa6, xaz6, xa7, xaz7, xa8, xaz8⟩ := xa.f9
      obtain ⟨xb0, xbz0, xb1, xbz1, xb2, xbz2, xb3, xbz3, xb4, xbz4, xb5, xbz5, xb6, xbz6, xb7, xbz7, xb8, xbz8⟩ := xb.f9
      go_wp2_with fail
      clear xf0 xfz0 xf1 xfz1 xf2 xfz2 xf3 xfz3 xf4 xfz4 xa0 xaz0 xa1 xaz1 xa2 xaz2 xa3 xaz3 xa4 xaz4 xa5 xaz5 xa6 xaz6 xa7 xaz7 xa8 xaz8 xb0 xbz0 xb1 xbz1 xb2 xbz2 xb3 xbz3 xb4 xbz4 xb5 xbz5 xb6 xbz6 xb7 xbz7 xb8 xbz8
      replace hB := hB.drew
      replace xf := xf.drew
      replace xa := xa.drew
      replace xb := xb.drew
      refine wp_region_held_drew (S := fun w' => w'.cell? ⟨V3.heap.size, 0, none⟩ = some (.string x.f.b0) ∧ w'.cell? ⟨V3.heap.size, 1, none⟩ = some (.string x.f.b1) ∧ w'.cell? ⟨V3.heap.size, 2, none⟩ = some (.int .i64 x.f.e0) ∧ w'.cell? ⟨V3.heap.size, 3, none⟩ = some (.int .i64 x.f.e1) ∧ w'.cell? ⟨V3.heap.size, 4, none⟩ = some (.int .i64 x.f.lim) ∧ w'.cell? ⟨V3.heap.size, 5, none⟩ = some (.int .i64 x.acked) ∧ w'.cell? ⟨V3.heap.size, 6, none⟩ = some (.int .u64 (x.last : Int)) ∧ w'.cell? ⟨V3.heap.size, 7, none⟩ = some (.bool x.flying) ∧ w'.cell? ⟨V3.heap.size, 8, none⟩ = some (.int .u64 (x.flight : Int)) ∧ w'.cell? ⟨g_xb, 0, none⟩ = some (.string x.f.b0) ∧ w'.cell? ⟨g_xb, 1, none⟩ = some (.string x.f.b1) ∧ w'.cell? ⟨g_xb, 2, none⟩ = some (.int .i64 x.f.e0) ∧ w'.cell? ⟨g_xb, 3, none⟩ = some (.int .i64 x.f.e1) ∧ w'.cell? ⟨g_xb, 4, none⟩ = some (.int .i64 x.f.lim) ∧ w'.cell? ⟨g_xb, 5, none⟩ = some (.int .i64 x.acked) ∧ w'.cell? ⟨g_xb, 6, none⟩ = some (.int .u64 (x.last : Int)) ∧ w'.cell? ⟨g_xb, 7, none⟩ = some (.bool x.flying) ∧ w'.cell? ⟨g_xb, 8, none⟩ = some (.int .u64 (x.flight : Int))) (by kernel_rfl) ?_ (fun hHeld => ?_)
      · exact ⟨xa.cell 0 rfl, xa.cell 1 rfl, xa.cell 2 rfl, xa.cell 3 rfl, xa.cell 4 rfl, xa.cell 5 rfl, xa.cell 6 rfl, xa.cell 7 rfl, xa.cell 8 rfl, xb.cell 0 rfl, xb.cell 1 rfl, xb.cell 2 rfl, xb.cell 3 rfl, xb.cell 4 rfl, xb.cell 5 rfl, xb.cell 6 rfl, xb.cell 7 rfl, xb.cell 8 rfl⟩
      generalize V11.drew = V12 at *
      refine tk 0 (v := ?_) rfl (Or.inl ⟨by rfl, ?_⟩) ?_; rotate_left
      · intro w hSw; (try dsimp only at hSw); go_simp; try with_reducible rfl
      try simp only [Act.put, l1, l2, l3, l4, l5, l6]
      refine tk 2 (v := ?_) rfl (Or.inl ⟨by rfl, ?_⟩) ?_; rotate_left
      · intro w hSw; (try dsimp only at hSw); go_simp; try with_reducible rfl
      try simp only [Act.put, l1, l2, l3, l4, l5, l6]
      refine wpAnyH_ready (rs := [1]) (by kernel_rfl) (by simp) ?_
      refine AllReadyH.cons rfl (fun K hK => ?_) AllReadyH.nil
      obtain ⟨xf0, xfz0, xf1, xfz1, xf2, xfz2, xf3, xfz3, xf4, xfz4⟩ := xf.f5
      obtain ⟨xa0, xaz0, xa1, xaz1, xa2, xaz2, xa3, xaz3, xa4, xaz4, xa5, xaz5, xa6, xaz6, xa7, xaz7, xa8, xaz8⟩ := xa.f9
      obtain ⟨xb0, xbz0, xb1, xbz1, xb2, xbz2, xb3, xbz3, xb4, xbz4, xb5, xbz5, xb6, xbz6, xb7, xbz7, xb8, xbz8⟩ := xb.f9
      go_simp
      refine (TL.out _).mono ?_
      rintro e V13 ⟨rfl, hk⟩
      clear xf0 xfz0 xf1 xfz1 xf2 xfz2 xf3 xfz3 xf4 xfz4 xa0 xaz0 xa1 xaz1 xa2 xaz2 xa3 xaz3 xa4 xaz4 xa5 xaz5 xa6 xaz6 xa7 xaz7 xa8 xaz8 xb0 xbz0 xb1 xbz1 xb2 xbz2 xb3 xbz3 xb4 xbz4 xb5 xbz5 xb6 xbz6 xb7 xbz7 xb8 xbz8
      replace hB := below_seq hB hk
      replace xf := xf.seq hk
      replace xa := xa.seq hk
      replace xb := xb.seq hk
      clear hk
      obtain ⟨xf0, xfz0, xf1, xfz1, xf2, xfz2, xf3, xfz3, xf4, xfz4⟩ := xf.f5
      obtain ⟨xa0, xaz0, xa1, xaz1, xa2, xaz2, xa3, xaz3, xa4, xaz4, xa5, xaz5, xa6, xaz6, xa7, xaz7, xa8, xaz8⟩ := xa.f9
      obtain ⟨xb0, xbz0, xb1, xbz1, xb2, xbz2, xb3, xbz3, xb4, xbz4, xb5, xbz5, xb6, xbz6, xb7, xbz7, xb8, xbz8⟩ := xb.f9
      try go_wp2_with fail
      clear xf0 xfz0 xf1 xfz1 xf2 xfz2 xf3 xfz3 xf4 xfz4 xa0 xaz0 xa1 xaz1 xa2 xaz2 xa3 xaz3 xa4 xaz4 xa5 xaz5 xa6 xaz6 xa7 xaz7 xa8 xaz8 xb0 xbz0 xb1 xbz1 xb2 xbz2 xb3 xbz3 xb4 xbz4 xb5 xbz5 xb6 xbz6 xb7 xbz7 xb8 xbz8
      clear hHeld
      refine hK.out _ _ ?_ (fun hHeld => ?_)
      · exact ⟨xa.cell 0 rfl, xa.cell 1 rfl, xa.cell 2 rfl, xa.cell 3 rfl, xa.cell 4 rfl, xa.cell 5 rfl, xa.cell 6 rfl, xa.cell 7 rfl, xa.cell 8 rfl, xb.cell 0 rfl, xb.cell 1 rfl, xb.cell 2 rfl, xb.cell 3 rfl, xb.cell 4 rfl, xb.cell 5 rfl, xb.cell 6 rfl, xb.cell 7 rfl, xb.cell 8 rfl⟩
      clear hK K
      try simp only [Act.put, l1, l2, l3, l4, l5, l6]
      refine tk 3 (v := ?_) rfl (Or.inl ⟨by rfl, ?_⟩) ?_; rotate_left
      · intro w hSw; (try dsimp only at hSw); go_simp; try with_reducible rfl
      try simp only [Act.put, l1, l2, l3, l4, l5, l6]
      refine tk 4 (v := ?_) rfl (Or.inl ⟨by rfl, ?_⟩) ?_; rotate_left
      · intro w hSw; (try dsimp only at hSw); go_simp; try with_reducible rfl
      try simp only [Act.put, l1, l2, l3, l4, l5, l6]
      refine tk 5 (v := ?_) rfl (Or.inl ⟨by rfl, ?_⟩) ?_; rotate_left
      · intro w hSw; (try dsimp only at hSw); go_simp; try with_reducible rfl
      try simp only [Act.put, l1, l2, l3, l4, l5, l6]
      refine tk 6 (v := ?_) rfl (Or.inl ⟨by rfl, ?_⟩) ?_; rotate_left
      · intro w hSw; (try dsimp only at hSw); go_simp; try with_reducible rfl
      try simp only [Act.put, l1, l2, l3, l4, l5, l6]
      refine tk 7 (v := ?_) rfl (Or.inl ⟨by rfl, ?_⟩) ?_; rotate_left
      · intro w hSw; (try dsimp only at hSw); go_simp; try with_reducible rfl
      try simp only [Act.put, l1, l2, l3, l4, l5, l6]
      refine tk 8 (v := ?_) rfl (Or.inl ⟨by rfl, ?_⟩) ?_; rotate_left
      · intro w hSw; (try dsimp only at hSw); go_simp; try with_reducible rfl
      try simp only [Act.put, l1, l2, l3, l4, l5, l6]
      refine tk 9 (v := ?_) rfl (Or.inl ⟨by rfl, ?_⟩) ?_; rotate_left
      · intro w hSw; (try dsimp only at hSw); go_simp; try with_reducible rfl
      try simp only [Act.put, l1, l2, l3, l4, l5, l6]
      refine tk 10 (v := ?_) rfl (Or.inl ⟨by rfl, ?_⟩) ?_; rotate_left
      · intro w hSw; (try dsimp only at hSw); go_simp; try with_reducible rfl
      try simp only [Act.put, l1, l2, l3, l4, l5, l6]
      refine tk 11 (v := ?_) rfl (Or.inl ⟨by rfl, ?_⟩) ?_; rotate_left
      · intro w hSw; (try dsimp only at hSw); go_simp; try with_reducible rfl
      try simp only [Act.put, l1, l2, l3, l4, l5, l6]
      refine tk 12 (v := ?_) rfl (Or.inl ⟨by rfl, ?_⟩) ?_; rotate_left
      · intro w hSw; (try dsimp only at hSw); go_simp; try with_reducible rfl
      try simp only [Act.put, l1, l2, l3, l4, l5, l6]
      refine tk 13 (v := ?_) rfl (Or.inl ⟨by rfl, ?_⟩) ?_; rotate_left
      · intro w hSw; (try dsimp only at hSw); go_simp; try with_reducible rfl
      try simp only [Act.put, l1, l2, l3, l4, l5, l6]
      refine tk 14 (v := ?_) rfl (Or.inl ⟨by rfl, ?_⟩) ?_; rotate_left
      · intro w hSw; (try dsimp only at hSw); go_simp; try with_reducible rfl
      try simp only [Act.put, l1, l2, l3, l4, l5, l6]
      refine wpAnyH_done (by kernel_rfl) ?_ _
      clear hHeld
      obtain ⟨xf0, xfz0, xf1, xfz1, xf2, xfz2, xf3, xfz3, xf4, xfz4⟩ := xf.f5
      obtain ⟨xa0, xaz0, xa1, xaz1, xa2, xaz2, xa3, xaz3, xa4, xaz4, xa5, xaz5, xa6, xaz6, xa7, xaz7, xa8, xaz8⟩ := xa.f9
      obtain ⟨xb0, xbz0, xb1, xbz1, xb2, xbz2, xb3, xbz3, xb4, xbz4, xb5, xbz5, xb6, xbz6, xb7, xbz7, xb8, xbz8⟩ := xb.f9
      go_wp2
      go_ret
      exact ⟨rfl, hB⟩

theorem own : ownKnob Tryz.prog.godebug = none := by kernel_rfl

set_option maxRecDepth 100000 in
theorem lifted (os : Os) (started : os.Started) (H : Type) (enc : TypeId × Value → H) :
    ReturnsInHanded {} Tryz.checked os 4 .any (Rows.journalRunsSpec.pre6 enc Tryz.prog Tryz.f4 Rows.journalRunsRow.domain false) (Rows.journalRunsSpec.post enc Tryz.prog Tryz.f4 false true false false) := by
  refine returnsInHanded_of_change (C := Tryz.checked) own started (by kernel_rfl) Tryz.func4
    (ChangeSpec.witness6 (enc := enc) (C := Tryz.checked) false ⟨#[], #[.agg #[.string ⟨#[]⟩, .string ⟨#[]⟩, .int .i64 0, .int .i64 0, .int .i64 0], .slice none 0 0], []⟩ 8 (by kernel_rfl) (by kernel_rfl) (by kernel_rfl) (by kernel_rfl)) ?_
  intro W base args ds gs before hval hW _ _
  have hW' := hW
  obtain ⟨p, q, hA0, hV, rfl, hfz, hnd⟩ := hW
  have hA : DataW.TrodAll enc Tryz.prog W 0 (fun _ => true) true Tryz.f4.params.toList args.toList ds p := hA0
  rw [Tryz.params4] at hA hval
  obtain ⟨v0, vs0, d0, ds0, p0, q0, hargs, rfl, rfl, h0, r0⟩ := trodAll_cons hA
  obtain ⟨v1, vs1, d1, ds1, p1, q1, rfl, rfl, rfl, h1, r1⟩ := trodAll_cons r0
  obtain ⟨rfl, rfl, rfl⟩ := trodAll_nil r1
  obtain rfl : args = #[v0, v1] := by cases args; simp_all
  obtain ⟨rfl, rfl⟩ := trodVars_none hV
  have k0 := h0
  obtain ⟨s0, rfl, hs0⟩ := open_fl (hval 0 25 v0 rfl rfl) h0
  have k1 := h1
  obtain ⟨s1, A1, c1, rfl, hs1, ho1, hp1, hq1⟩ := open_stps (hval 1 30 v1 rfl rfl) h1
  clear hA0
  simp only [List.append_nil] at hW'
  refine (walk s0 s1 A1 c1 W hs0 hs1 ho1 hp1 hq1).mono fun e W' ⟨he, hB⟩ => ?_
  subst he
  exact ⟨_, rfl, ⟨_, _, _, [], _, [], hW', trodAll_cons_mk (shut_bool Tryz.underlying4 _) trodAll_mk0, (trodAll_cons_mk (Below.trod Tryz.laidOut (by kernel_rfl) (of_decide_eq_true (by kernel_rfl)) k0 hB (fun x hx => by simpa using hW'.lt x (by simp [hx]))) (trodAll_cons_mk (Below.trod Tryz.laidOut (by kernel_rfl) (of_decide_eq_true (by kernel_rfl)) k1 hB (fun x hx => by simpa using hW'.lt x (by simp [hx]))) trodAll_mk0)), rfl, hB.frame _, fun h => by cases h⟩⟩

theorem holds : Rows.JournalRunsSaid :=
  OpenClaim.holds_of_wide 4 Tryz.f4 rfl rfl rfl rfl rfl rfl rfl ⟨rfl, rfl, rfl, rfl, rfl⟩ rfl rfl rfl rfl rfl (by kernel_rfl) Tryz.func4 (by kernel_rfl)
    (of_decide_eq_true (by kernel_rfl)) (by unfold Func.isWrapper; first | (rw [if_pos (by decide +kernel)]; kernel_rfl) | (rw [if_neg (by decide +kernel)]; exact ⟨rfl, rfl⟩))
    (fun os started H enc _ => lifted os started H enc)
end Go.Proofs.YthmpjoiifglbjaaGreat.JournalRuns

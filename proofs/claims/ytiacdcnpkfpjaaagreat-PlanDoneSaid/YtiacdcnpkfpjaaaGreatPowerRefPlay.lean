/- The reference's functions of layer 4: contracts only. -/
import Derived.Test.YtiacdcnpkfpjaaaGreatRows
import Derived.Test.YtiacdcnpkfpjaaaGreatPowerRef
import Derived.Test.YtiacdcnpkfpjaaaGreatPowerFit
import Derived.Test.YtiacdcnpkfpjaaaGreatPowerOps
import Derived.Test.YtiacdcnpkfpjaaaGreatFlashDo
import Derived.Test.YtiacdcnpkfpjaaaGreatRef
import Derived.Test.YtiacdcnpkfpjaaaGreatBox
import Derived.Test.YtiacdcnpkfpjaaaGreatInts
import Derived.WalkKit
import Derived.ProofKit
import Derived.OwnWalk
import Derived.Lib.Hide
import Derived.BigQuiet
import Derived.Deep.QuietTactic
import Derived.Deep.RegionHeld3
import Derived.IntWalk
import Derived.WalkLawsBesides
import Derived.WalkMore
import Derived.Deep.Draws
namespace Go.Proofs.YtiacdcnpkfpjaaaGreat
open Go.RowKit
set_option linter.unusedVariables false
set_option linter.unusedSimpArgs false

theorem ref_play_cut {m : ByteArray} {l : List PwOp} {f : Fl} {k : Nat} {o : PwOp} (h : l[k]? = some o) : playG (k : Int) m (l.drop k) f k = (tearF f o m, k, doErr f o) := by
  obtain ⟨hk, rfl⟩ := List.getElem?_eq_some_iff.1 h
  rw [List.drop_eq_getElem_cons hk, playG, if_pos rfl]

set_option maxRecDepth 100000 in
set_option maxHeartbeats 4000000 in
theorem ref04Play (f : Fl) (l : List PwOp) (A : Option Addr) (c : Nat) (cut : Int) (m : ByteArray) (W : World) (hf : f.fit) (ho : ∀ o ∈ l, o.ok) (hl : OpsAt W A l) (hm : m.size ≤ maxLen) (hc : l.length ≤ c ∧ c ≤ maxLen) :
    Calls Tryz.prog 11 #[.agg #[.string f.b0, .string f.b1, .int .i64 f.e0, .int .i64 f.e1, .int .i64 f.lim], .slice A l.length c, .int .i64 cut, .string m] W fun e W' => e = .returned (.tuple #[.agg #[.string (playR f l cut m).1.b0, .string (playR f l cut m).1.b1, .int .i64 (playR f l cut m).1.e0, .int .i64 (playR f l cut m).1.e1, .int .i64 (playR f l cut m).1.lim], .int .i64 ((playR f l cut m).2.1 : Int), .int .i64 (playR f l cut m).2.2]) ∧ Below W.heap.size W W' := by
  obtain ⟨hc1, hc2⟩ := hc
  unfold maxLen at hc2
  obtain ⟨a, n, e, HR⟩ : ∃ a n e, playR f l cut m = (a, n, e) := ⟨_, _, _, rfl⟩
  rw [HR]
  dsimp only
  have HOP := Lib.hid (fun (k : Nat) (o : PwOp) (hk : l[k]? = some o) => (show ∃ g off, A = some ⟨g, off, none⟩ ∧ ∀ V : World, Below W.heap.size W V → (V.cell? ⟨g, off + k * 4, none⟩ = some (.int .i64 o.kind) ∧ V.cell? ⟨g, off + k * 4 + 1, none⟩ = some (.int .i64 o.bank) ∧ V.cell? ⟨g, off + k * 4 + 2, none⟩ = some (.int .i64 o.q) ∧ V.cell? ⟨g, off + k * 4 + 3, none⟩ = some (.string o.d)) from by
    have hk1 : k < l.length := (List.getElem?_eq_some_iff.1 hk).1
    obtain ⟨g, off, e, hg, hcl⟩ := hl (by omega)
    refine ⟨g, off, e, fun V hV => ?_⟩
    obtain ⟨a, b, c, d⟩ := hcl k o hk
    exact ⟨(hV.cell (p := ⟨g, _, none⟩) hg).trans a, (hV.cell (p := ⟨g, _, none⟩) hg).trans b, (hV.cell (p := ⟨g, _, none⟩) hg).trans c, (hV.cell (p := ⟨g, _, none⟩) hg).trans d⟩))
  replace HR := Lib.hid HR
  clear hl
  have hB : Below W.heap.size W ((W.alloc (.cells #[.string f.b0, .string f.b1, .int .i64 f.e0, .int .i64 f.e1, .int .i64 f.lim] 37)).alloc (.cells #[.string ⟨#[]⟩, .string ⟨#[]⟩, .int .i64 0, .int .i64 0, .int .i64 0] 37)) := (((Below.refl _ _).alloc (Nat.le_refl _) _).alloc (by simp) _)
  have xf := ((Box.new 37 W [.string f.b0, .string f.b1, .int .i64 f.e0, .int .i64 f.e1, .int .i64 f.lim]).alloc (.cells #[.string ⟨#[]⟩, .string ⟨#[]⟩, .int .i64 0, .int .i64 0, .int .i64 0] 37))
  have xr : Box 37 ((W.alloc (.cells #[.string f.b0, .string f.b1, .int .i64 f.e0, .int .i64 f.e1, .int .i64 f.lim] 37)).alloc (.cells #[.string ⟨#[]⟩, .string ⟨#[]⟩, .int .i64 0, .int .i64 0, .int .i64 0] 37)) (W.heap.size + 1) [.string ⟨#[]⟩, .string ⟨#[]⟩, .int .i64 0, .int .i64 0, .int .i64 0] := by have h := (Box.new 37 (W.alloc (.cells #[.string f.b0, .string f.b1, .int .i64 f.e0, .int .i64 f.e1, .int .i64 f.lim] 37)) [.string ⟨#[]⟩, .string ⟨#[]⟩, .int .i64 0, .int .i64 0, .int .i64 0]); rwa [World.size_alloc] at h
  have le_xr : W.heap.size ≤ W.heap.size + 1 := by omega
  go_enter Tryz.func11, Tryz.ntmps11
  go_wp2
  generalize ((W.alloc (.cells #[.string f.b0, .string f.b1, .int .i64 f.e0, .int .i64 f.e1, .int .i64 f.lim] 37)).alloc (.cells #[.string ⟨#[]⟩, .string ⟨#[]⟩, .int .i64 0, .int .i64 0, .int .i64 0] 37)) = V1 at *
  go_loopw [11] (fun i w => ∃ (k : Nat) (g : Fl), k ≤ l.length ∧ i = .int .i64 k ∧ g.fit ∧ playR f l cut m = playG cut m (l.drop k) g k ∧ Box 37 w W.heap.size [.string g.b0, .string g.b1, .int .i64 g.e0, .int .i64 g.e1, .int .i64 g.lim] ∧ Box 37 w (W.heap.size + 1) [.string ⟨#[]⟩, .string ⟨#[]⟩, .int .i64 0, .int .i64 0, .int .i64 0] ∧ Below W.heap.size W w) (fun i _ => l.length - (intOf i).toNat)
  case atStart => exact ⟨0, f, Nat.zero_le _, rfl, hf, rfl, xf, xr, hB⟩
  case round =>
    clear xf xr hB
    obtain ⟨k, g, hk, rfl, hgk, HP, xf, xr, hB⟩ := hrel
    replace HP := Lib.hid HP
    by_cases hlt : k < l.length
    · obtain ⟨o, hoo⟩ : ∃ o, l[k]? = some o := ⟨_, List.getElem?_eq_getElem hlt⟩
      obtain ⟨gL, off, rfl, HC⟩ := HOP.out k o hoo
      have hok := ho o (List.mem_of_getElem? hoo)
      replace HC := Lib.hid HC
      have j0 : (0 : Int) ≤ (k : Int) := by omega
      have j1 : (k : Int) < (l.length : Int) := by omega
      have j2 : ¬ 9223372036854775807 < (k : Int) + 1 := by omega
      by_cases hkc : (k : Int) = cut
      · subst hkc
        have HS := HR.out.symm.trans (HP.out.trans (ref_play_cut hoo))
        simp only [Prod.mk.injEq] at HS
        obtain ⟨h1, h2, h3⟩ := HS
        subst h1 h2 h3
        have TT := Lib.hid (fun (V : World) => (show Calls Tryz.prog 22 #[.agg #[.string g.b0, .string g.b1, .int .i64 g.e0, .int .i64 g.e1, .int .i64 g.lim], .agg #[.int .i64 o.kind, .int .i64 o.bank, .int .i64 o.q, .string o.d], .string m] V fun e' W' => e' = .returned (.tuple #[.agg #[.string (tearF g o m).b0, .string (tearF g o m).b1, .int .i64 (tearF g o m).e0, .int .i64 (tearF g o m).e1, .int .i64 (tearF g o m).lim], .int .i64 (doErr g o)]) ∧ Below V.heap.size V W' from ref04Tear g o m V hgk hok hm))
        have n1 : ((n : Int) == (n : Int)) = true := beq_self_eq_true _
        clear hoo HP HR HOP
        go_wp2_with fail
        generalize hwr : wr = V at *
        clear hwr
        replace hB := hB.drew
        replace xf := xf.drew
        replace xr := xr.drew
        refine wp_region_held_drew (S := fun w' => w'.cell? ⟨W.heap.size, 0, none⟩ = some (.string g.b0) ∧ w'.cell? ⟨W.heap.size, 1, none⟩ = some (.string g.b1) ∧ w'.cell? ⟨W.heap.size, 2, none⟩ = some (.int .i64 g.e0) ∧ w'.cell? ⟨W.heap.size, 3, none⟩ = some (.int .i64 g.e1) ∧ w'.cell? ⟨W.heap.size, 4, none⟩ = some (.int .i64 g.lim) ∧ w'.cell? ⟨gL, off + n * 4, none⟩ = some (.int .i64 o.kind) ∧ w'.cell? ⟨gL, off + n * 4 + 1, none⟩ = some (.int .i64 o.bank) ∧ w'.cell? ⟨gL, off + n * 4 + 2, none⟩ = some (.int .i64 o.q) ∧ w'.cell? ⟨gL, off + n * 4 + 3, none⟩ = some (.string o.d)) (by kernel_rfl) ?_ (fun hHeld => ?_)
        · exact ⟨xf.cell 0 rfl, xf.cell 1 rfl, xf.cell 2 rfl, xf.cell 3 rfl, xf.cell 4 rfl, (HC.out _ hB).1, (HC.out _ hB).2.1, (HC.out _ hB).2.2.1, (HC.out _ hB).2.2.2⟩
        generalize V.drew = Vd at *
        refine tk 0 (v := ?_) rfl (Or.inl ⟨by rfl, ?_⟩) ?_; rotate_left
        · intro w hSw; (try dsimp only at hSw); go_simp; try with_reducible rfl
        try simp only [Act.put, l1, l2, l3, l4, l5, l6]
        refine tk 1 (v := ?_) rfl (Or.inl ⟨by rfl, ?_⟩) ?_; rotate_left
        · intro w hSw; (try dsimp only at hSw); go_simp; try with_reducible rfl
        try simp only [Act.put, l1, l2, l3, l4, l5, l6]
        refine tk 2 (v := ?_) rfl (Or.inl ⟨by rfl, ?_⟩) ?_; rotate_left
        · intro w hSw; (try dsimp only at hSw); go_simp; try with_reducible rfl
        try simp only [Act.put, l1, l2, l3, l4, l5, l6]
        refine tk 3 (v := ?_) rfl (Or.inl ⟨by rfl, ?_⟩) ?_; rotate_left
        · intro w hSw; (try dsimp only at hSw); go_simp; try with_reducible rfl
        try simp only [Act.put, l1, l2, l3, l4, l5, l6]
        refine tk 4 (v := ?_) rfl (Or.inl ⟨by rfl, ?_⟩) ?_; rotate_left
        · intro w hSw; (try dsimp only at hSw); go_simp; try with_reducible rfl
        try simp only [Act.put, l1, l2, l3, l4, l5, l6]
        refine tk 5 (v := ?_) rfl (Or.inl ⟨by rfl, ?_⟩) ?_; rotate_left
        · intro w hSw; (try dsimp only at hSw); go_simp; try with_reducible rfl
        try simp only [Act.put, l1, l2, l3, l4, l5, l6]
        refine wpAnyH_ready (rs := [6, 10]) (by kernel_rfl) (by simp) ?_
        refine AllReadyH.cons rfl (fun K hK => ?_) (AllReadyH.cons rfl (fun K hK => ?_) AllReadyH.nil)
        · go_simp
          refine (TT.out _).mono ?_
          rintro e Vc ⟨rfl, hh⟩
          replace hB := below_seq hB hh
          replace xf := xf.seq hh
          replace xr := xr.seq hh
          clear hHeld
          refine hK.out _ _ ?_ (fun hHeld => ?_)
          · exact ⟨xf.cell 0 rfl, xf.cell 1 rfl, xf.cell 2 rfl, xf.cell 3 rfl, xf.cell 4 rfl, (HC.out _ hB).1, (HC.out _ hB).2.1, (HC.out _ hB).2.2.1, (HC.out _ hB).2.2.2⟩
          clear hK K
          try simp only [Act.put, l1, l2, l3, l4, l5, l6]
          refine tk 7 (v := ?_) rfl (Or.inl ⟨by rfl, ?_⟩) ?_; rotate_left
          · intro w hSw; (try dsimp only at hSw); go_simp; try with_reducible rfl
          try simp only [Act.put, l1, l2, l3, l4, l5, l6]
          refine tk 8 (v := ?_) rfl (Or.inl ⟨by rfl, ?_⟩) ?_; rotate_left
          · intro w hSw; (try dsimp only at hSw); go_simp; try with_reducible rfl
          try simp only [Act.put, l1, l2, l3, l4, l5, l6]
          refine tk 9 (v := ?_) rfl (Or.inl ⟨by rfl, ?_⟩) ?_; rotate_left
          · intro w hSw; (try dsimp only at hSw); go_simp; try with_reducible rfl
          try simp only [Act.put, l1, l2, l3, l4, l5, l6]
          refine wpAnyH_ready (rs := [10]) (by kernel_rfl) (by simp) ?_
          refine AllReadyH.cons rfl (fun K hK => ?_) AllReadyH.nil
          go_simp
          have xb := Box.new 37 Vc [.string ⟨#[]⟩, .string ⟨#[]⟩, .int .i64 0, .int .i64 0, .int .i64 0]
          have hgz : W.heap.size ≤ Vc.heap.size := hB.size
          have nxf : Vc.heap.size ≠ W.heap.size := by have := xf.lt; omega
          replace xf := xf.alloc (.cells #[.string ⟨#[]⟩, .string ⟨#[]⟩, .int .i64 0, .int .i64 0, .int .i64 0] 37)
          have nxr : Vc.heap.size ≠ W.heap.size + 1 := by have := xr.lt; omega
          replace xr := xr.alloc (.cells #[.string ⟨#[]⟩, .string ⟨#[]⟩, .int .i64 0, .int .i64 0, .int .i64 0] 37)
          replace hB := hB.alloc hB.size (.cells #[.string ⟨#[]⟩, .string ⟨#[]⟩, .int .i64 0, .int .i64 0, .int .i64 0] 37)
          generalize Vc.alloc (.cells #[.string ⟨#[]⟩, .string ⟨#[]⟩, .int .i64 0, .int .i64 0, .int .i64 0] 37) = Vz at *
          clear hHeld
          refine hK.out _ _ ?_ (fun hHeld => ?_)
          · exact ⟨xf.cell 0 rfl, xf.cell 1 rfl, xf.cell 2 rfl, xf.cell 3 rfl, xf.cell 4 rfl, (HC.out _ hB).1, (HC.out _ hB).2.1, (HC.out _ hB).2.2.1, (HC.out _ hB).2.2.2⟩
          clear hK K
          try simp only [Act.put, l1, l2, l3, l4, l5, l6]
          generalize Vc.heap.size = gz at *
          refine wpAnyH_ready (rs := [11]) (by kernel_rfl) (by simp) ?_
          refine AllReadyH.cons rfl (fun K hK => ?_) AllReadyH.nil
          have z0 := xb.cell 0 rfl
          have y0 := xb.frozen 0
          have z1 := xb.cell 1 rfl
          have y1 := xb.frozen 1
          have z2 := xb.cell 2 rfl
          have y2 := xb.frozen 2
          have z3 := xb.cell 3 rfl
          have y3 := xb.frozen 3
          have z4 := xb.cell 4 rfl
          have y4 := xb.frozen 4
          go_simp
          clear z0 y0 z1 y1 z2 y2 z3 y3 z4 y4
          replace xf := (((((xf.other nxf 0 (.string (tearF g o m).b0)).other nxf 1 (.string (tearF g o m).b1)).other nxf 2 (.int .i64 (tearF g o m).e0)).other nxf 3 (.int .i64 (tearF g o m).e1)).other nxf 4 (.int .i64 (tearF g o m).lim))
          replace xr := (((((xr.other nxr 0 (.string (tearF g o m).b0)).other nxr 1 (.string (tearF g o m).b1)).other nxr 2 (.int .i64 (tearF g o m).e0)).other nxr 3 (.int .i64 (tearF g o m).e1)).other nxr 4 (.int .i64 (tearF g o m).lim))
          replace xb : Box 37 (((((Vz.setCell ⟨gz, 0, none⟩ (.string (tearF g o m).b0)).setCell ⟨gz, 1, none⟩ (.string (tearF g o m).b1)).setCell ⟨gz, 2, none⟩ (.int .i64 (tearF g o m).e0)).setCell ⟨gz, 3, none⟩ (.int .i64 (tearF g o m).e1)).setCell ⟨gz, 4, none⟩ (.int .i64 (tearF g o m).lim)) gz [.string (tearF g o m).b0, .string (tearF g o m).b1, .int .i64 (tearF g o m).e0, .int .i64 (tearF g o m).e1, .int .i64 (tearF g o m).lim] := (((((xb.set 0 (.string (tearF g o m).b0)).set 1 (.string (tearF g o m).b1)).set 2 (.int .i64 (tearF g o m).e0)).set 3 (.int .i64 (tearF g o m).e1)).set 4 (.int .i64 (tearF g o m).lim))
          replace hB : Below W.heap.size W (((((Vz.setCell ⟨gz, 0, none⟩ (.string (tearF g o m).b0)).setCell ⟨gz, 1, none⟩ (.string (tearF g o m).b1)).setCell ⟨gz, 2, none⟩ (.int .i64 (tearF g o m).e0)).setCell ⟨gz, 3, none⟩ (.int .i64 (tearF g o m).e1)).setCell ⟨gz, 4, none⟩ (.int .i64 (tearF g o m).lim)) := (((((hB.setCell hgz _).setCell hgz _).setCell hgz _).setCell hgz _).setCell hgz _)
          generalize (((((Vz.setCell ⟨gz, 0, none⟩ (.string (tearF g o m).b0)).setCell ⟨gz, 1, none⟩ (.string (tearF g o m).b1)).setCell ⟨gz, 2, none⟩ (.int .i64 (tearF g o m).e0)).setCell ⟨gz, 3, none⟩ (.int .i64 (tearF g o m).e1)).setCell ⟨gz, 4, none⟩ (.int .i64 (tearF g o m).lim)) = Vn at *
          clear hHeld
          refine hK.out _ _ ?_ (fun hHeld => ?_)
          · exact ⟨xf.cell 0 rfl, xf.cell 1 rfl, xf.cell 2 rfl, xf.cell 3 rfl, xf.cell 4 rfl, (HC.out _ hB).1, (HC.out _ hB).2.1, (HC.out _ hB).2.2.1, (HC.out _ hB).2.2.2⟩
          clear hK K
          try simp only [Act.put, l1, l2, l3, l4, l5, l6]
          refine tk 12 (v := ?_) rfl (Or.inl ⟨by rfl, ?_⟩) ?_; rotate_left
          · intro w hSw; (try dsimp only at hSw); go_simp; try with_reducible rfl
          try simp only [Act.put, l1, l2, l3, l4, l5, l6]
          refine wpAnyH_done (by kernel_rfl) ?_ _
          have cxf := xf.f5
          have cxr := xr.f5
          have cxb := xb.f5
          go_wp2
          clear cxf cxr cxb
          replace xf : Box 37 (((((Vn.setCell ⟨W.heap.size + 1, 0, none⟩ (.string (tearF g o m).b0)).setCell ⟨W.heap.size + 1, 1, none⟩ (.string (tearF g o m).b1)).setCell ⟨W.heap.size + 1, 2, none⟩ (.int .i64 (tearF g o m).e0)).setCell ⟨W.heap.size + 1, 3, none⟩ (.int .i64 (tearF g o m).e1)).setCell ⟨W.heap.size + 1, 4, none⟩ (.int .i64 (tearF g o m).lim)) (W.heap.size) [.string g.b0, .string g.b1, .int .i64 g.e0, .int .i64 g.e1, .int .i64 g.lim] := (((((xf.other (by omega) 0 (.string (tearF g o m).b0)).other (by omega) 1 (.string (tearF g o m).b1)).other (by omega) 2 (.int .i64 (tearF g o m).e0)).other (by omega) 3 (.int .i64 (tearF g o m).e1)).other (by omega) 4 (.int .i64 (tearF g o m).lim))
          replace xb : Box 37 (((((Vn.setCell ⟨W.heap.size + 1, 0, none⟩ (.string (tearF g o m).b0)).setCell ⟨W.heap.size + 1, 1, none⟩ (.string (tearF g o m).b1)).setCell ⟨W.heap.size + 1, 2, none⟩ (.int .i64 (tearF g o m).e0)).setCell ⟨W.heap.size + 1, 3, none⟩ (.int .i64 (tearF g o m).e1)).setCell ⟨W.heap.size + 1, 4, none⟩ (.int .i64 (tearF g o m).lim)) (gz) [.string (tearF g o m).b0, .string (tearF g o m).b1, .int .i64 (tearF g o m).e0, .int .i64 (tearF g o m).e1, .int .i64 (tearF g o m).lim] := (((((xb.other (by omega) 0 (.string (tearF g o m).b0)).other (by omega) 1 (.string (tearF g o m).b1)).other (by omega) 2 (.int .i64 (tearF g o m).e0)).other (by omega) 3 (.int .i64 (tearF g o m).e1)).other (by omega) 4 (.int .i64 (tearF g o m).lim))
          replace xr : Box 37 (((((Vn.setCell ⟨W.heap.size + 1, 0, none⟩ (.string (tearF g o m).b0)).setCell ⟨W.heap.size + 1, 1, none⟩ (.string (tearF g o m).b1)).setCell ⟨W.heap.size + 1, 2, none⟩ (.int .i64 (tearF g o m).e0)).setCell ⟨W.heap.size + 1, 3, none⟩ (.int .i64 (tearF g o m).e1)).setCell ⟨W.heap.size + 1, 4, none⟩ (.int .i64 (tearF g o m).lim)) (W.heap.size + 1) [.string (tearF g o m).b0, .string (tearF g o m).b1, .int .i64 (tearF g o m).e0, .int .i64 (tearF g o m).e1, .int .i64 (tearF g o m).lim] := (((((xr.set 0 (.string (tearF g o m).b0)).set 1 (.string (tearF g o m).b1)).set 2 (.int .i64 (tearF g o m).e0)).set 3 (.int .i64 (tearF g o m).e1)).set 4 (.int .i64 (tearF g o m).lim))
          replace hB : Below W.heap.size W (((((Vn.setCell ⟨W.heap.size + 1, 0, none⟩ (.string (tearF g o m).b0)).setCell ⟨W.heap.size + 1, 1, none⟩ (.string (tearF g o m).b1)).setCell ⟨W.heap.size + 1, 2, none⟩ (.int .i64 (tearF g o m).e0)).setCell ⟨W.heap.size + 1, 3, none⟩ (.int .i64 (tearF g o m).e1)).setCell ⟨W.heap.size + 1, 4, none⟩ (.int .i64 (tearF g o m).lim)) := (((((hB.setCell le_xr _).setCell le_xr _).setCell le_xr _).setCell le_xr _).setCell le_xr _)
          generalize (((((Vn.setCell ⟨W.heap.size + 1, 0, none⟩ (.string (tearF g o m).b0)).setCell ⟨W.heap.size + 1, 1, none⟩ (.string (tearF g o m).b1)).setCell ⟨W.heap.size + 1, 2, none⟩ (.int .i64 (tearF g o m).e0)).setCell ⟨W.heap.size + 1, 3, none⟩ (.int .i64 (tearF g o m).e1)).setCell ⟨W.heap.size + 1, 4, none⟩ (.int .i64 (tearF g o m).lim)) = V51 at *
          have cxf := xf.f5
          have cxr := xr.f5
          have cxb := xb.f5
          exact bodyPost_ret (v := .tuple #[.agg #[.string (tearF g o m).b0, .string (tearF g o m).b1, .int .i64 (tearF g o m).e0, .int .i64 (tearF g o m).e1, .int .i64 (tearF g o m).lim], .int .i64 (n : Int), .int .i64 (doErr g o)]) (by simp [results, Tryz.results11, go_sem, cxr]) rfl ⟨rfl, hB⟩
        · go_simp
          have xb := Box.new 37 Vd [.string ⟨#[]⟩, .string ⟨#[]⟩, .int .i64 0, .int .i64 0, .int .i64 0]
          have hgz : W.heap.size ≤ Vd.heap.size := hB.size
          have nxf : Vd.heap.size ≠ W.heap.size := by have := xf.lt; omega
          replace xf := xf.alloc (.cells #[.string ⟨#[]⟩, .string ⟨#[]⟩, .int .i64 0, .int .i64 0, .int .i64 0] 37)
          have nxr : Vd.heap.size ≠ W.heap.size + 1 := by have := xr.lt; omega
          replace xr := xr.alloc (.cells #[.string ⟨#[]⟩, .string ⟨#[]⟩, .int .i64 0, .int .i64 0, .int .i64 0] 37)
          replace hB := hB.alloc hB.size (.cells #[.string ⟨#[]⟩, .string ⟨#[]⟩, .int .i64 0, .int .i64 0, .int .i64 0] 37)
          generalize Vd.alloc (.cells #[.string ⟨#[]⟩, .string ⟨#[]⟩, .int .i64 0, .int .i64 0, .int .i64 0] 37) = Va at *
          clear hHeld
          refine hK.out _ _ ?_ (fun hHeld => ?_)
          · exact ⟨xf.cell 0 rfl, xf.cell 1 rfl, xf.cell 2 rfl, xf.cell 3 rfl, xf.cell 4 rfl, (HC.out _ hB).1, (HC.out _ hB).2.1, (HC.out _ hB).2.2.1, (HC.out _ hB).2.2.2⟩
          clear hK K
          try simp only [Act.put, l1, l2, l3, l4, l5, l6]
          refine wpAnyH_ready (rs := [6]) (by kernel_rfl) (by simp) ?_
          refine AllReadyH.cons rfl (fun K hK => ?_) AllReadyH.nil
          go_simp
          refine (TT.out _).mono ?_
          rintro e Vz ⟨rfl, hh⟩
          replace hB := below_seq hB hh
          replace xf := xf.seq hh
          replace xr := xr.seq hh
          replace xb := xb.seq hh
          clear hHeld
          refine hK.out _ _ ?_ (fun hHeld => ?_)
          · exact ⟨xf.cell 0 rfl, xf.cell 1 rfl, xf.cell 2 rfl, xf.cell 3 rfl, xf.cell 4 rfl, (HC.out _ hB).1, (HC.out _ hB).2.1, (HC.out _ hB).2.2.1, (HC.out _ hB).2.2.2⟩
          clear hK K
          try simp only [Act.put, l1, l2, l3, l4, l5, l6]
          refine tk 7 (v := ?_) rfl (Or.inl ⟨by rfl, ?_⟩) ?_; rotate_left
          · intro w hSw; (try dsimp only at hSw); go_simp; try with_reducible rfl
          try simp only [Act.put, l1, l2, l3, l4, l5, l6]
          refine tk 8 (v := ?_) rfl (Or.inl ⟨by rfl, ?_⟩) ?_; rotate_left
          · intro w hSw; (try dsimp only at hSw); go_simp; try with_reducible rfl
          try simp only [Act.put, l1, l2, l3, l4, l5, l6]
          refine tk 9 (v := ?_) rfl (Or.inl ⟨by rfl, ?_⟩) ?_; rotate_left
          · intro w hSw; (try dsimp only at hSw); go_simp; try with_reducible rfl
          try simp only [Act.put, l1, l2, l3, l4, l5, l6]
          generalize Vd.heap.size = gz at *
          refine wpAnyH_ready (rs := [11]) (by kernel_rfl) (by simp) ?_
          refine AllReadyH.cons rfl (fun K hK => ?_) AllReadyH.nil
          have z0 := xb.cell 0 rfl
          have y0 := xb.frozen 0
          have z1 := xb.cell 1 rfl
          have y1 := xb.frozen 1
          have z2 := xb.cell 2 rfl
          have y2 := xb.frozen 2
          have z3 := xb.cell 3 rfl
          have y3 := xb.frozen 3
          have z4 := xb.cell 4 rfl
          have y4 := xb.frozen 4
          go_simp
          clear z0 y0 z1 y1 z2 y2 z3 y3 z4 y4
          replace xf := (((((xf.other nxf 0 (.string (tearF g o m).b0)).other nxf 1 (.string (tearF g o m).b1)).other nxf 2 (.int .i64 (tearF g o m).e0)).other nxf 3 (.int .i64 (tearF g o m).e1)).other nxf 4 (.int .i64 (tearF g o m).lim))
          replace xr := (((((xr.other nxr 0 (.string (tearF g o m).b0)).other nxr 1 (.string (tearF g o m).b1)).other nxr 2 (.int .i64 (tearF g o m).e0)).other nxr 3 (.int .i64 (tearF g o m).e1)).other nxr 4 (.int .i64 (tearF g o m).lim))
          replace xb : Box 37 (((((Vz.setCell ⟨gz, 0, none⟩ (.string (tearF g o m).b0)).setCell ⟨gz, 1, none⟩ (.string (tearF g o m).b1)).setCell ⟨gz, 2, none⟩ (.int .i64 (tearF g o m).e0)).setCell ⟨gz, 3, none⟩ (.int .i64 (tearF g o m).e1)).setCell ⟨gz, 4, none⟩ (.int .i64 (tearF g o m).lim)) gz [.string (tearF g o m).b0, .string (tearF g o m).b1, .int .i64 (tearF g o m).e0, .int .i64 (tearF g o m).e1, .int .i64 (tearF g o m).lim] := (((((xb.set 0 (.string (tearF g o m).b0)).set 1 (.string (tearF g o m).b1)).set 2 (.int .i64 (tearF g o m).e0)).set 3 (.int .i64 (tearF g o m).e1)).set 4 (.int .i64 (tearF g o m).lim))
          replace hB : Below W.heap.size W (((((Vz.setCell ⟨gz, 0, none⟩ (.string (tearF g o m).b0)).setCell ⟨gz, 1, none⟩ (.string (tearF g o m).b1)).setCell ⟨gz, 2, none⟩ (.int .i64 (tearF g o m).e0)).setCell ⟨gz, 3, none⟩ (.int .i64 (tearF g o m).e1)).setCell ⟨gz, 4, none⟩ (.int .i64 (tearF g o m).lim)) := (((((hB.setCell hgz _).setCell hgz _).setCell hgz _).setCell hgz _).setCell hgz _)
          generalize (((((Vz.setCell ⟨gz, 0, none⟩ (.string (tearF g o m).b0)).setCell ⟨gz, 1, none⟩ (.string (tearF g o m).b1)).setCell ⟨gz, 2, none⟩ (.int .i64 (tearF g o m).e0)).setCell ⟨gz, 3, none⟩ (.int .i64 (tearF g o m).e1)).setCell ⟨gz, 4, none⟩ (.int .i64 (tearF g o m).lim)) = Vn at *
          clear hHeld
          refine hK.out _ _ ?_ (fun hHeld => ?_)
          · exact ⟨xf.cell 0 rfl, xf.cell 1 rfl, xf.cell 2 rfl, xf.cell 3 rfl, xf.cell 4 rfl, (HC.out _ hB).1, (HC.out _ hB).2.1, (HC.out _ hB).2.2.1, (HC.out _ hB).2.2.2⟩
          clear hK K
          try simp only [Act.put, l1, l2, l3, l4, l5, l6]
          refine tk 12 (v := ?_) rfl (Or.inl ⟨by rfl, ?_⟩) ?_; rotate_left
          · intro w hSw; (try dsimp only at hSw); go_simp; try with_reducible rfl
          try simp only [Act.put, l1, l2, l3, l4, l5, l6]
          refine wpAnyH_done (by kernel_rfl) ?_ _
          have cxf := xf.f5
          have cxr := xr.f5
          have cxb := xb.f5
          go_wp2
          clear cxf cxr cxb
          replace xf : Box 37 (((((Vn.setCell ⟨W.heap.size + 1, 0, none⟩ (.string (tearF g o m).b0)).setCell ⟨W.heap.size + 1, 1, none⟩ (.string (tearF g o m).b1)).setCell ⟨W.heap.size + 1, 2, none⟩ (.int .i64 (tearF g o m).e0)).setCell ⟨W.heap.size + 1, 3, none⟩ (.int .i64 (tearF g o m).e1)).setCell ⟨W.heap.size + 1, 4, none⟩ (.int .i64 (tearF g o m).lim)) (W.heap.size) [.string g.b0, .string g.b1, .int .i64 g.e0, .int .i64 g.e1, .int .i64 g.lim] := (((((xf.other (by omega) 0 (.string (tearF g o m).b0)).other (by omega) 1 (.string (tearF g o m).b1)).other (by omega) 2 (.int .i64 (tearF g o m).e0)).other (by omega) 3 (.int .i64 (tearF g o m).e1)).other (by omega) 4 (.int .i64 (tearF g o m).lim))
          replace xb : Box 37 (((((Vn.setCell ⟨W.heap.size + 1, 0, none⟩ (.string (tearF g o m).b0)).setCell ⟨W.heap.size + 1, 1, none⟩ (.string (tearF g o m).b1)).setCell ⟨W.heap.size + 1, 2, none⟩ (.int .i64 (tearF g o m).e0)).setCell ⟨W.heap.size + 1, 3, none⟩ (.int .i64 (tearF g o m).e1)).setCell ⟨W.heap.size + 1, 4, none⟩ (.int .i64 (tearF g o m).lim)) (gz) [.string (tearF g o m).b0, .string (tearF g o m).b1, .int .i64 (tearF g o m).e0, .int .i64 (tearF g o m).e1, .int .i64 (tearF g o m).lim] := (((((xb.other (by omega) 0 (.string (tearF g o m).b0)).other (by omega) 1 (.string (tearF g o m).b1)).other (by omega) 2 (.int .i64 (tearF g o m).e0)).other (by omega) 3 (.int .i64 (tearF g o m).e1)).other (by omega) 4 (.int .i64 (tearF g o m).lim))
          replace xr : Box 37 (((((Vn.setCell ⟨W.heap.size + 1, 0, none⟩ (.string (tearF g o m).b0)).setCell ⟨W.heap.size + 1, 1, none⟩ (.string (tearF g o m).b1)).setCell ⟨W.heap.size + 1, 2, none⟩ (.int .i64 (tearF g o m).e0)).setCell ⟨W.heap.size + 1, 3, none⟩ (.int .i64 (tearF g o m).e1)).setCell ⟨W.heap.size + 1, 4, none⟩ (.int .i64 (tearF g o m).lim)) (W.heap.size + 1) [.string (tearF g o m).b0, .string (tearF g o m).b1, .int .i64 (tearF g o m).e0, .int .i64 (tearF g o m).e1, .int .i64 (tearF g o m).lim] := (((((xr.set 0 (.string (tearF g o m).b0)).set 1 (.string (tearF g o m).b1)).set 2 (.int .i64 (tearF g o m).e0)).set 3 (.int .i64 (tearF g o m).e1)).set 4 (.int .i64 (tearF g o m).lim))
          replace hB : Below W.heap.size W (((((Vn.setCell ⟨W.heap.size + 1, 0, none⟩ (.string (tearF g o m).b0)).setCell ⟨W.heap.size + 1, 1, none⟩ (.string (tearF g o m).b1)).setCell ⟨W.heap.size + 1, 2, none⟩ (.int .i64 (tearF g o m).e0)).setCell ⟨W.heap.size + 1, 3, none⟩ (.int .i64 (tearF g o m).e1)).setCell ⟨W.heap.size + 1, 4, none⟩ (.int .i64 (tearF g o m).lim)) := (((((hB.setCell le_xr _).setCell le_xr _).setCell le_xr _).setCell le_xr _).setCell le_xr _)
          generalize (((((Vn.setCell ⟨W.heap.size + 1, 0, none⟩ (.string (tearF g o m).b0)).setCell ⟨W.heap.size + 1, 1, none⟩ (.string (tearF g o m).b1)).setCell ⟨W.heap.size + 1, 2, none⟩ (.int .i64 (tearF g o m).e0)).setCell ⟨W.heap.size + 1, 3, none⟩ (.int .i64 (tearF g o m).e1)).setCell ⟨W.heap.size + 1, 4, none⟩ (.int .i64 (tearF g o m).lim)) = V51 at *
          have cxf := xf.f5
          have cxr := xr.f5
          have cxb := xb.f5
          exact bodyPost_ret (v := .tuple #[.agg #[.string (tearF g o m).b0, .string (tearF g o m).b1, .int .i64 (tearF g o m).e0, .int .i64 (tearF g o m).e1, .int .i64 (tearF g o m).lim], .int .i64 (n : Int), .int .i64 (doErr g o)]) (by simp [results, Tryz.results11, go_sem, cxr]) rfl ⟨rfl, hB⟩
      · have n1 : ((k : Int) == cut) = false := beq_eq_false_iff_ne.2 hkc
        replace hkc := Lib.hid hkc
        by_cases he : doErr g o = 0
        · have HS := Lib.hid (HP.out.trans (play_step hoo hkc.out he))
          have hgn := doF_fit hgk o
          have TD := Lib.hid (fun (V : World) => (show Calls Tryz.prog 23 #[.agg #[.string g.b0, .string g.b1, .int .i64 g.e0, .int .i64 g.e1, .int .i64 g.lim], .agg #[.int .i64 o.kind, .int .i64 o.bank, .int .i64 o.q, .string o.d]] V fun e' W' => e' = .returned (.tuple #[.agg #[.string (doF g o).b0, .string (doF g o).b1, .int .i64 (doF g o).e0, .int .i64 (doF g o).e1, .int .i64 (doF g o).lim], .int .i64 0]) ∧ Below V.heap.size V W' from by have h := ref04Do g o V hgk hok; rwa [he] at h))
          clear he hoo HP
          generalize doF g o = g' at *
          go_wp2_with fail
          generalize hwr : wr = V at *
          clear hwr
          replace hB := hB.drew
          replace xf := xf.drew
          replace xr := xr.drew
          refine wp_region_held_drew (S := fun w' => w'.cell? ⟨W.heap.size, 0, none⟩ = some (.string g.b0) ∧ w'.cell? ⟨W.heap.size, 1, none⟩ = some (.string g.b1) ∧ w'.cell? ⟨W.heap.size, 2, none⟩ = some (.int .i64 g.e0) ∧ w'.cell? ⟨W.heap.size, 3, none⟩ = some (.int .i64 g.e1) ∧ w'.cell? ⟨W.heap.size, 4, none⟩ = some (.int .i64 g.lim) ∧ w'.cell? ⟨gL, off + k * 4, none⟩ = some (.int .i64 o.kind) ∧ w'.cell? ⟨gL, off + k * 4 + 1, none⟩ = some (.int .i64 o.bank) ∧ w'.cell? ⟨gL, off + k * 4 + 2, none⟩ = some (.int .i64 o.q) ∧ w'.cell? ⟨gL, off + k * 4 + 3, none⟩ = some (.string o.d)) (by kernel_rfl) ?_ (fun hHeld => ?_)
          · exact ⟨xf.cell 0 rfl, xf.cell 1 rfl, xf.cell 2 rfl, xf.cell 3 rfl, xf.cell 4 rfl, (HC.out _ hB).1, (HC.out _ hB).2.1, (HC.out _ hB).2.2.1, (HC.out _ hB).2.2.2⟩
          generalize V.drew = Vd at *
          refine tk 0 (v := ?_) rfl (Or.inl ⟨by rfl, ?_⟩) ?_; rotate_left
          · intro w hSw; (try dsimp only at hSw); go_simp; try with_reducible rfl
          try simp only [Act.put, l1, l2, l3, l4, l5, l6]
          refine tk 1 (v := ?_) rfl (Or.inl ⟨by rfl, ?_⟩) ?_; rotate_left
          · intro w hSw; (try dsimp only at hSw); go_simp; try with_reducible rfl
          try simp only [Act.put, l1, l2, l3, l4, l5, l6]
          refine tk 2 (v := ?_) rfl (Or.inl ⟨by rfl, ?_⟩) ?_; rotate_left
          · intro w hSw; (try dsimp only at hSw); go_simp; try with_reducible rfl
          try simp only [Act.put, l1, l2, l3, l4, l5, l6]
          refine tk 3 (v := ?_) rfl (Or.inl ⟨by rfl, ?_⟩) ?_; rotate_left
          · intro w hSw; (try dsimp only at hSw); go_simp; try with_reducible rfl
          try simp only [Act.put, l1, l2, l3, l4, l5, l6]
          refine tk 4 (v := ?_) rfl (Or.inl ⟨by rfl, ?_⟩) ?_; rotate_left
          · intro w hSw; (try dsimp only at hSw); go_simp; try with_reducible rfl
          try simp only [Act.put, l1, l2, l3, l4, l5, l6]
          refine wpAnyH_ready (rs := [5, 9]) (by kernel_rfl) (by simp) ?_
          refine AllReadyH.cons rfl (fun K hK => ?_) (AllReadyH.cons rfl (fun K hK => ?_) AllReadyH.nil)
          · go_simp
            refine (TD.out _).mono ?_
            rintro e Vc ⟨rfl, hh⟩
            replace hB := below_seq hB hh
            replace xf := xf.seq hh
            replace xr := xr.seq hh
            clear hHeld
            refine hK.out _ _ ?_ (fun hHeld => ?_)
            · exact ⟨xf.cell 0 rfl, xf.cell 1 rfl, xf.cell 2 rfl, xf.cell 3 rfl, xf.cell 4 rfl, (HC.out _ hB).1, (HC.out _ hB).2.1, (HC.out _ hB).2.2.1, (HC.out _ hB).2.2.2⟩
            clear hK K
            try simp only [Act.put, l1, l2, l3, l4, l5, l6]
            refine tk 6 (v := ?_) rfl (Or.inl ⟨by rfl, ?_⟩) ?_; rotate_left
            · intro w hSw; (try dsimp only at hSw); go_simp; try with_reducible rfl
            try simp only [Act.put, l1, l2, l3, l4, l5, l6]
            refine tk 7 (v := ?_) rfl (Or.inl ⟨by rfl, ?_⟩) ?_; rotate_left
            · intro w hSw; (try dsimp only at hSw); go_simp; try with_reducible rfl
            try simp only [Act.put, l1, l2, l3, l4, l5, l6]
            refine tk 8 (v := ?_) rfl (Or.inl ⟨by rfl, ?_⟩) ?_; rotate_left
            · intro w hSw; (try dsimp only at hSw); go_simp; try with_reducible rfl
            try simp only [Act.put, l1, l2, l3, l4, l5, l6]
            refine wpAnyH_ready (rs := [9]) (by kernel_rfl) (by simp) ?_
            refine AllReadyH.cons rfl (fun K hK => ?_) AllReadyH.nil
            go_simp
            have xb := Box.new 37 Vc [.string ⟨#[]⟩, .string ⟨#[]⟩, .int .i64 0, .int .i64 0, .int .i64 0]
            have hgz : W.heap.size ≤ Vc.heap.size := hB.size
            have nxf : Vc.heap.size ≠ W.heap.size := by have := xf.lt; omega
            replace xf := xf.alloc (.cells #[.string ⟨#[]⟩, .string ⟨#[]⟩, .int .i64 0, .int .i64 0, .int .i64 0] 37)
            have nxr : Vc.heap.size ≠ W.heap.size + 1 := by have := xr.lt; omega
            replace xr := xr.alloc (.cells #[.string ⟨#[]⟩, .string ⟨#[]⟩, .int .i64 0, .int .i64 0, .int .i64 0] 37)
            replace hB := hB.alloc hB.size (.cells #[.string ⟨#[]⟩, .string ⟨#[]⟩, .int .i64 0, .int .i64 0, .int .i64 0] 37)
            generalize Vc.alloc (.cells #[.string ⟨#[]⟩, .string ⟨#[]⟩, .int .i64 0, .int .i64 0, .int .i64 0] 37) = Vz at *
            clear hHeld
            refine hK.out _ _ ?_ (fun hHeld => ?_)
            · exact ⟨xf.cell 0 rfl, xf.cell 1 rfl, xf.cell 2 rfl, xf.cell 3 rfl, xf.cell 4 rfl, (HC.out _ hB).1, (HC.out _ hB).2.1, (HC.out _ hB).2.2.1, (HC.out _ hB).2.2.2⟩
            clear hK K
            try simp only [Act.put, l1, l2, l3, l4, l5, l6]
            generalize Vc.heap.size = gz at *
            refine wpAnyH_ready (rs := [10]) (by kernel_rfl) (by simp) ?_
            refine AllReadyH.cons rfl (fun K hK => ?_) AllReadyH.nil
            have z0 := xb.cell 0 rfl
            have y0 := xb.frozen 0
            have z1 := xb.cell 1 rfl
            have y1 := xb.frozen 1
            have z2 := xb.cell 2 rfl
            have y2 := xb.frozen 2
            have z3 := xb.cell 3 rfl
            have y3 := xb.frozen 3
            have z4 := xb.cell 4 rfl
            have y4 := xb.frozen 4
            go_simp
            clear z0 y0 z1 y1 z2 y2 z3 y3 z4 y4
            replace xf := (((((xf.other nxf 0 (.string g'.b0)).other nxf 1 (.string g'.b1)).other nxf 2 (.int .i64 g'.e0)).other nxf 3 (.int .i64 g'.e1)).other nxf 4 (.int .i64 g'.lim))
            replace xr := (((((xr.other nxr 0 (.string g'.b0)).other nxr 1 (.string g'.b1)).other nxr 2 (.int .i64 g'.e0)).other nxr 3 (.int .i64 g'.e1)).other nxr 4 (.int .i64 g'.lim))
            replace xb : Box 37 (((((Vz.setCell ⟨gz, 0, none⟩ (.string g'.b0)).setCell ⟨gz, 1, none⟩ (.string g'.b1)).setCell ⟨gz, 2, none⟩ (.int .i64 g'.e0)).setCell ⟨gz, 3, none⟩ (.int .i64 g'.e1)).setCell ⟨gz, 4, none⟩ (.int .i64 g'.lim)) gz [.string g'.b0, .string g'.b1, .int .i64 g'.e0, .int .i64 g'.e1, .int .i64 g'.lim] := (((((xb.set 0 (.string g'.b0)).set 1 (.string g'.b1)).set 2 (.int .i64 g'.e0)).set 3 (.int .i64 g'.e1)).set 4 (.int .i64 g'.lim))
            replace hB : Below W.heap.size W (((((Vz.setCell ⟨gz, 0, none⟩ (.string g'.b0)).setCell ⟨gz, 1, none⟩ (.string g'.b1)).setCell ⟨gz, 2, none⟩ (.int .i64 g'.e0)).setCell ⟨gz, 3, none⟩ (.int .i64 g'.e1)).setCell ⟨gz, 4, none⟩ (.int .i64 g'.lim)) := (((((hB.setCell hgz _).setCell hgz _).setCell hgz _).setCell hgz _).setCell hgz _)
            generalize (((((Vz.setCell ⟨gz, 0, none⟩ (.string g'.b0)).setCell ⟨gz, 1, none⟩ (.string g'.b1)).setCell ⟨gz, 2, none⟩ (.int .i64 g'.e0)).setCell ⟨gz, 3, none⟩ (.int .i64 g'.e1)).setCell ⟨gz, 4, none⟩ (.int .i64 g'.lim)) = Vn at *
            clear hHeld
            refine hK.out _ _ ?_ (fun hHeld => ?_)
            · exact ⟨xf.cell 0 rfl, xf.cell 1 rfl, xf.cell 2 rfl, xf.cell 3 rfl, xf.cell 4 rfl, (HC.out _ hB).1, (HC.out _ hB).2.1, (HC.out _ hB).2.2.1, (HC.out _ hB).2.2.2⟩
            clear hK K
            try simp only [Act.put, l1, l2, l3, l4, l5, l6]
            refine tk 11 (v := ?_) rfl (Or.inl ⟨by rfl, ?_⟩) ?_; rotate_left
            · intro w hSw; (try dsimp only at hSw); go_simp; try with_reducible rfl
            try simp only [Act.put, l1, l2, l3, l4, l5, l6]
            refine wpAnyH_done (by kernel_rfl) ?_ _
            have cxf := xf.f5
            have cxr := xr.f5
            have cxb := xb.f5
            go_wp2
            clear cxf cxr cxb
            replace xr : Box 37 (((((Vn.setCell ⟨W.heap.size, 0, none⟩ (.string g'.b0)).setCell ⟨W.heap.size, 1, none⟩ (.string g'.b1)).setCell ⟨W.heap.size, 2, none⟩ (.int .i64 g'.e0)).setCell ⟨W.heap.size, 3, none⟩ (.int .i64 g'.e1)).setCell ⟨W.heap.size, 4, none⟩ (.int .i64 g'.lim)) (W.heap.size + 1) [.string ⟨#[]⟩, .string ⟨#[]⟩, .int .i64 0, .int .i64 0, .int .i64 0] := (((((xr.other (by omega) 0 (.string g'.b0)).other (by omega) 1 (.string g'.b1)).other (by omega) 2 (.int .i64 g'.e0)).other (by omega) 3 (.int .i64 g'.e1)).other (by omega) 4 (.int .i64 g'.lim))
            replace xb : Box 37 (((((Vn.setCell ⟨W.heap.size, 0, none⟩ (.string g'.b0)).setCell ⟨W.heap.size, 1, none⟩ (.string g'.b1)).setCell ⟨W.heap.size, 2, none⟩ (.int .i64 g'.e0)).setCell ⟨W.heap.size, 3, none⟩ (.int .i64 g'.e1)).setCell ⟨W.heap.size, 4, none⟩ (.int .i64 g'.lim)) (gz) [.string g'.b0, .string g'.b1, .int .i64 g'.e0, .int .i64 g'.e1, .int .i64 g'.lim] := (((((xb.other (by omega) 0 (.string g'.b0)).other (by omega) 1 (.string g'.b1)).other (by omega) 2 (.int .i64 g'.e0)).other (by omega) 3 (.int .i64 g'.e1)).other (by omega) 4 (.int .i64 g'.lim))
            replace xf : Box 37 (((((Vn.setCell ⟨W.heap.size, 0, none⟩ (.string g'.b0)).setCell ⟨W.heap.size, 1, none⟩ (.string g'.b1)).setCell ⟨W.heap.size, 2, none⟩ (.int .i64 g'.e0)).setCell ⟨W.heap.size, 3, none⟩ (.int .i64 g'.e1)).setCell ⟨W.heap.size, 4, none⟩ (.int .i64 g'.lim)) (W.heap.size) [.string g'.b0, .string g'.b1, .int .i64 g'.e0, .int .i64 g'.e1, .int .i64 g'.lim] := (((((xf.set 0 (.string g'.b0)).set 1 (.string g'.b1)).set 2 (.int .i64 g'.e0)).set 3 (.int .i64 g'.e1)).set 4 (.int .i64 g'.lim))
            replace hB : Below W.heap.size W (((((Vn.setCell ⟨W.heap.size, 0, none⟩ (.string g'.b0)).setCell ⟨W.heap.size, 1, none⟩ (.string g'.b1)).setCell ⟨W.heap.size, 2, none⟩ (.int .i64 g'.e0)).setCell ⟨W.heap.size, 3, none⟩ (.int .i64 g'.e1)).setCell ⟨W.heap.size, 4, none⟩ (.int .i64 g'.lim)) := (((((hB.setCell (Nat.le_refl _) _).setCell (Nat.le_refl _) _).setCell (Nat.le_refl _) _).setCell (Nat.le_refl _) _).setCell (Nat.le_refl _) _)
            generalize (((((Vn.setCell ⟨W.heap.size, 0, none⟩ (.string g'.b0)).setCell ⟨W.heap.size, 1, none⟩ (.string g'.b1)).setCell ⟨W.heap.size, 2, none⟩ (.int .i64 g'.e0)).setCell ⟨W.heap.size, 3, none⟩ (.int .i64 g'.e1)).setCell ⟨W.heap.size, 4, none⟩ (.int .i64 g'.lim)) = V51 at *
            go_roundw
            case rel => exact ⟨k + 1, g', by omega, by go_num, hgn, HS.out, xf, xr, hB⟩
            case measure => simp [intOf]; omega
          · go_simp
            have xb := Box.new 37 Vd [.string ⟨#[]⟩, .string ⟨#[]⟩, .int .i64 0, .int .i64 0, .int .i64 0]
            have hgz : W.heap.size ≤ Vd.heap.size := hB.size
            have nxf : Vd.heap.size ≠ W.heap.size := by have := xf.lt; omega
            replace xf := xf.alloc (.cells #[.string ⟨#[]⟩, .string ⟨#[]⟩, .int .i64 0, .int .i64 0, .int .i64 0] 37)
            have nxr : Vd.heap.size ≠ W.heap.size + 1 := by have := xr.lt; omega
            replace xr := xr.alloc (.cells #[.string ⟨#[]⟩, .string ⟨#[]⟩, .int .i64 0, .int .i64 0, .int .i64 0] 37)
            replace hB := hB.alloc hB.size (.cells #[.string ⟨#[]⟩, .string ⟨#[]⟩, .int .i64 0, .int .i64 0, .int .i64 0] 37)
            generalize Vd.alloc (.cells #[.string ⟨#[]⟩, .string ⟨#[]⟩, .int .i64 0, .int .i64 0, .int .i64 0] 37) = Va at *
            clear hHeld
            refine hK.out _ _ ?_ (fun hHeld => ?_)
            · exact ⟨xf.cell 0 rfl, xf.cell 1 rfl, xf.cell 2 rfl, xf.cell 3 rfl, xf.cell 4 rfl, (HC.out _ hB).1, (HC.out _ hB).2.1, (HC.out _ hB).2.2.1, (HC.out _ hB).2.2.2⟩
            clear hK K
            try simp only [Act.put, l1, l2, l3, l4, l5, l6]
            refine wpAnyH_ready (rs := [5]) (by kernel_rfl) (by simp) ?_
            refine AllReadyH.cons rfl (fun K hK => ?_) AllReadyH.nil
            go_simp
            refine (TD.out _).mono ?_
            rintro e Vz ⟨rfl, hh⟩
            replace hB := below_seq hB hh
            replace xf := xf.seq hh
            replace xr := xr.seq hh
            replace xb := xb.seq hh
            clear hHeld
            refine hK.out _ _ ?_ (fun hHeld => ?_)
            · exact ⟨xf.cell 0 rfl, xf.cell 1 rfl, xf.cell 2 rfl, xf.cell 3 rfl, xf.cell 4 rfl, (HC.out _ hB).1, (HC.out _ hB).2.1, (HC.out _ hB).2.2.1, (HC.out _ hB).2.2.2⟩
            clear hK K
            try simp only [Act.put, l1, l2, l3, l4, l5, l6]
            refine tk 6 (v := ?_) rfl (Or.inl ⟨by rfl, ?_⟩) ?_; rotate_left
            · intro w hSw; (try dsimp only at hSw); go_simp; try with_reducible rfl
            try simp only [Act.put, l1, l2, l3, l4, l5, l6]
            refine tk 7 (v := ?_) rfl (Or.inl ⟨by rfl, ?_⟩) ?_; rotate_left
            · intro w hSw; (try dsimp only at hSw); go_simp; try with_reducible rfl
            try simp only [Act.put, l1, l2, l3, l4, l5, l6]
            refine tk 8 (v := ?_) rfl (Or.inl ⟨by rfl, ?_⟩) ?_; rotate_left
            · intro w hSw; (try dsimp only at hSw); go_simp; try with_reducible rfl
            try simp only [Act.put, l1, l2, l3, l4, l5, l6]
            generalize Vd.heap.size = gz at *
            refine wpAnyH_ready (rs := [10]) (by kernel_rfl) (by simp) ?_
            refine AllReadyH.cons rfl (fun K hK => ?_) AllReadyH.nil
            have z0 := xb.cell 0 rfl
            have y0 := xb.frozen 0
            have z1 := xb.cell 1 rfl
            have y1 := xb.frozen 1
            have z2 := xb.cell 2 rfl
            have y2 := xb.frozen 2
            have z3 := xb.cell 3 rfl
            have y3 := xb.frozen 3
            have z4 := xb.cell 4 rfl
            have y4 := xb.frozen 4
            go_simp
            clear z0 y0 z1 y1 z2 y2 z3 y3 z4 y4
            replace xf := (((((xf.other nxf 0 (.string g'.b0)).other nxf 1 (.string g'.b1)).other nxf 2 (.int .i64 g'.e0)).other nxf 3 (.int .i64 g'.e1)).other nxf 4 (.int .i64 g'.lim))
            replace xr := (((((xr.other nxr 0 (.string g'.b0)).other nxr 1 (.string g'.b1)).other nxr 2 (.int .i64 g'.e0)).other nxr 3 (.int .i64 g'.e1)).other nxr 4 (.int .i64 g'.lim))
            replace xb : Box 37 (((((Vz.setCell ⟨gz, 0, none⟩ (.string g'.b0)).setCell ⟨gz, 1, none⟩ (.string g'.b1)).setCell ⟨gz, 2, none⟩ (.int .i64 g'.e0)).setCell ⟨gz, 3, none⟩ (.int .i64 g'.e1)).setCell ⟨gz, 4, none⟩ (.int .i64 g'.lim)) gz [.string g'.b0, .string g'.b1, .int .i64 g'.e0, .int .i64 g'.e1, .int .i64 g'.lim] := (((((xb.set 0 (.string g'.b0)).set 1 (.string g'.b1)).set 2 (.int .i64 g'.e0)).set 3 (.int .i64 g'.e1)).set 4 (.int .i64 g'.lim))
            replace hB : Below W.heap.size W (((((Vz.setCell ⟨gz, 0, none⟩ (.string g'.b0)).setCell ⟨gz, 1, none⟩ (.string g'.b1)).setCell ⟨gz, 2, none⟩ (.int .i64 g'.e0)).setCell ⟨gz, 3, none⟩ (.int .i64 g'.e1)).setCell ⟨gz, 4, none⟩ (.int .i64 g'.lim)) := (((((hB.setCell hgz _).setCell hgz _).setCell hgz _).setCell hgz _).setCell hgz _)
            generalize (((((Vz.setCell ⟨gz, 0, none⟩ (.string g'.b0)).setCell ⟨gz, 1, none⟩ (.string g'.b1)).setCell ⟨gz, 2, none⟩ (.int .i64 g'.e0)).setCell ⟨gz, 3, none⟩ (.int .i64 g'.e1)).setCell ⟨gz, 4, none⟩ (.int .i64 g'.lim)) = Vn at *
            clear hHeld
            refine hK.out _ _ ?_ (fun hHeld => ?_)
            · exact ⟨xf.cell 0 rfl, xf.cell 1 rfl, xf.cell 2 rfl, xf.cell 3 rfl, xf.cell 4 rfl, (HC.out _ hB).1, (HC.out _ hB).2.1, (HC.out _ hB).2.2.1, (HC.out _ hB).2.2.2⟩
            clear hK K
            try simp only [Act.put, l1, l2, l3, l4, l5, l6]
            refine tk 11 (v := ?_) rfl (Or.inl ⟨by rfl, ?_⟩) ?_; rotate_left
            · intro w hSw; (try dsimp only at hSw); go_simp; try with_reducible rfl
            try simp only [Act.put, l1, l2, l3, l4, l5, l6]
            refine wpAnyH_done (by kernel_rfl) ?_ _
            have cxf := xf.f5
            have cxr := xr.f5
            have cxb := xb.f5
            go_wp2
            clear cxf cxr cxb
            replace xr : Box 37 (((((Vn.setCell ⟨W.heap.size, 0, none⟩ (.string g'.b0)).setCell ⟨W.heap.size, 1, none⟩ (.string g'.b1)).setCell ⟨W.heap.size, 2, none⟩ (.int .i64 g'.e0)).setCell ⟨W.heap.size, 3, none⟩ (.int .i64 g'.e1)).setCell ⟨W.heap.size, 4, none⟩ (.int .i64 g'.lim)) (W.heap.size + 1) [.string ⟨#[]⟩, .string ⟨#[]⟩, .int .i64 0, .int .i64 0, .int .i64 0] := (((((xr.other (by omega) 0 (.string g'.b0)).other (by omega) 1 (.string g'.b1)).other (by omega) 2 (.int .i64 g'.e0)).other (by omega) 3 (.int .i64 g'.e1)).other (by omega) 4 (.int .i64 g'.lim))
            replace xb : Box 37 (((((Vn.setCell ⟨W.heap.size, 0, none⟩ (.string g'.b0)).setCell ⟨W.heap.size, 1, none⟩ (.string g'.b1)).setCell ⟨W.heap.size, 2, none⟩ (.int .i64 g'.e0)).setCell ⟨W.heap.size, 3, none⟩ (.int .i64 g'.e1)).setCell ⟨W.heap.size, 4, none⟩ (.int .i64 g'.lim)) (gz) [.string g'.b0, .string g'.b1, .int .i64 g'.e0, .int .i64 g'.e1, .int .i64 g'.lim] := (((((xb.other (by omega) 0 (.string g'.b0)).other (by omega) 1 (.string g'.b1)).other (by omega) 2 (.int .i64 g'.e0)).other (by omega) 3 (.int .i64 g'.e1)).other (by omega) 4 (.int .i64 g'.lim))
            replace xf : Box 37 (((((Vn.setCell ⟨W.heap.size, 0, none⟩ (.string g'.b0)).setCell ⟨W.heap.size, 1, none⟩ (.string g'.b1)).setCell ⟨W.heap.size, 2, none⟩ (.int .i64 g'.e0)).setCell ⟨W.heap.size, 3, none⟩ (.int .i64 g'.e1)).setCell ⟨W.heap.size, 4, none⟩ (.int .i64 g'.lim)) (W.heap.size) [.string g'.b0, .string g'.b1, .int .i64 g'.e0, .int .i64 g'.e1, .int .i64 g'.lim] := (((((xf.set 0 (.string g'.b0)).set 1 (.string g'.b1)).set 2 (.int .i64 g'.e0)).set 3 (.int .i64 g'.e1)).set 4 (.int .i64 g'.lim))
            replace hB : Below W.heap.size W (((((Vn.setCell ⟨W.heap.size, 0, none⟩ (.string g'.b0)).setCell ⟨W.heap.size, 1, none⟩ (.string g'.b1)).setCell ⟨W.heap.size, 2, none⟩ (.int .i64 g'.e0)).setCell ⟨W.heap.size, 3, none⟩ (.int .i64 g'.e1)).setCell ⟨W.heap.size, 4, none⟩ (.int .i64 g'.lim)) := (((((hB.setCell (Nat.le_refl _) _).setCell (Nat.le_refl _) _).setCell (Nat.le_refl _) _).setCell (Nat.le_refl _) _).setCell (Nat.le_refl _) _)
            generalize (((((Vn.setCell ⟨W.heap.size, 0, none⟩ (.string g'.b0)).setCell ⟨W.heap.size, 1, none⟩ (.string g'.b1)).setCell ⟨W.heap.size, 2, none⟩ (.int .i64 g'.e0)).setCell ⟨W.heap.size, 3, none⟩ (.int .i64 g'.e1)).setCell ⟨W.heap.size, 4, none⟩ (.int .i64 g'.lim)) = V51 at *
            go_roundw
            case rel => exact ⟨k + 1, g', by omega, by go_num, hgn, HS.out, xf, xr, hB⟩
            case measure => simp [intOf]; omega
        · have HS := HR.out.symm.trans (HP.out.trans (play_stop hoo hkc.out he))
          simp only [Prod.mk.injEq] at HS
          obtain ⟨rfl, rfl, rfl⟩ := HS
          have TD := Lib.hid (fun (V : World) => (show Calls Tryz.prog 23 #[.agg #[.string a.b0, .string a.b1, .int .i64 a.e0, .int .i64 a.e1, .int .i64 a.lim], .agg #[.int .i64 o.kind, .int .i64 o.bank, .int .i64 o.q, .string o.d]] V fun e' W' => e' = .returned (.tuple #[.agg #[.string a.b0, .string a.b1, .int .i64 a.e0, .int .i64 a.e1, .int .i64 a.lim], .int .i64 (doErr a o)]) ∧ Below V.heap.size V W' from by have h := ref04Do a o V hgk hok; rwa [doF_err he] at h))
          have n2 : (doErr a o != 0) = true := bne_iff_ne.2 he
          clear he hoo HP HR HOP
          go_wp2_with fail
          generalize hwr : wr = V at *
          clear hwr
          replace hB := hB.drew
          replace xf := xf.drew
          replace xr := xr.drew
          refine wp_region_held_drew (S := fun w' => w'.cell? ⟨W.heap.size, 0, none⟩ = some (.string a.b0) ∧ w'.cell? ⟨W.heap.size, 1, none⟩ = some (.string a.b1) ∧ w'.cell? ⟨W.heap.size, 2, none⟩ = some (.int .i64 a.e0) ∧ w'.cell? ⟨W.heap.size, 3, none⟩ = some (.int .i64 a.e1) ∧ w'.cell? ⟨W.heap.size, 4, none⟩ = some (.int .i64 a.lim) ∧ w'.cell? ⟨gL, off + n * 4, none⟩ = some (.int .i64 o.kind) ∧ w'.cell? ⟨gL, off + n * 4 + 1, none⟩ = some (.int .i64 o.bank) ∧ w'.cell? ⟨gL, off + n * 4 + 2, none⟩ = some (.int .i64 o.q) ∧ w'.cell? ⟨gL, off + n * 4 + 3, none⟩ = some (.string o.d)) (by kernel_rfl) ?_ (fun hHeld => ?_)
          · exact ⟨xf.cell 0 rfl, xf.cell 1 rfl, xf.cell 2 rfl, xf.cell 3 rfl, xf.cell 4 rfl, (HC.out _ hB).1, (HC.out _ hB).2.1, (HC.out _ hB).2.2.1, (HC.out _ hB).2.2.2⟩
          generalize V.drew = Vd at *
          refine tk 0 (v := ?_) rfl (Or.inl ⟨by rfl, ?_⟩) ?_; rotate_left
          · intro w hSw; (try dsimp only at hSw); go_simp; try with_reducible rfl
          try simp only [Act.put, l1, l2, l3, l4, l5, l6]
          refine tk 1 (v := ?_) rfl (Or.inl ⟨by rfl, ?_⟩) ?_; rotate_left
          · intro w hSw; (try dsimp only at hSw); go_simp; try with_reducible rfl
          try simp only [Act.put, l1, l2, l3, l4, l5, l6]
          refine tk 2 (v := ?_) rfl (Or.inl ⟨by rfl, ?_⟩) ?_; rotate_left
          · intro w hSw; (try dsimp only at hSw); go_simp; try with_reducible rfl
          try simp only [Act.put, l1, l2, l3, l4, l5, l6]
          refine tk 3 (v := ?_) rfl (Or.inl ⟨by rfl, ?_⟩) ?_; rotate_left
          · intro w hSw; (try dsimp only at hSw); go_simp; try with_reducible rfl
          try simp only [Act.put, l1, l2, l3, l4, l5, l6]
          refine tk 4 (v := ?_) rfl (Or.inl ⟨by rfl, ?_⟩) ?_; rotate_left
          · intro w hSw; (try dsimp only at hSw); go_simp; try with_reducible rfl
          try simp only [Act.put, l1, l2, l3, l4, l5, l6]
          refine wpAnyH_ready (rs := [5, 9]) (by kernel_rfl) (by simp) ?_
          refine AllReadyH.cons rfl (fun K hK => ?_) (AllReadyH.cons rfl (fun K hK => ?_) AllReadyH.nil)
          · go_simp
            refine (TD.out _).mono ?_
            rintro e Vc ⟨rfl, hh⟩
            replace hB := below_seq hB hh
            replace xf := xf.seq hh
            replace xr := xr.seq hh
            clear hHeld
            refine hK.out _ _ ?_ (fun hHeld => ?_)
            · exact ⟨xf.cell 0 rfl, xf.cell 1 rfl, xf.cell 2 rfl, xf.cell 3 rfl, xf.cell 4 rfl, (HC.out _ hB).1, (HC.out _ hB).2.1, (HC.out _ hB).2.2.1, (HC.out _ hB).2.2.2⟩
            clear hK K
            try simp only [Act.put, l1, l2, l3, l4, l5, l6]
            refine tk 6 (v := ?_) rfl (Or.inl ⟨by rfl, ?_⟩) ?_; rotate_left
            · intro w hSw; (try dsimp only at hSw); go_simp; try with_reducible rfl
            try simp only [Act.put, l1, l2, l3, l4, l5, l6]
            refine tk 7 (v := ?_) rfl (Or.inl ⟨by rfl, ?_⟩) ?_; rotate_left
            · intro w hSw; (try dsimp only at hSw); go_simp; try with_reducible rfl
            try simp only [Act.put, l1, l2, l3, l4, l5, l6]
            refine tk 8 (v := ?_) rfl (Or.inl ⟨by rfl, ?_⟩) ?_; rotate_left
            · intro w hSw; (try dsimp only at hSw); go_simp; try with_reducible rfl
            try simp only [Act.put, l1, l2, l3, l4, l5, l6]
            refine wpAnyH_ready (rs := [9]) (by kernel_rfl) (by simp) ?_
            refine AllReadyH.cons rfl (fun K hK => ?_) AllReadyH.nil
            go_simp
            have xb := Box.new 37 Vc [.string ⟨#[]⟩, .string ⟨#[]⟩, .int .i64 0, .int .i64 0, .int .i64 0]
            have hgz : W.heap.size ≤ Vc.heap.size := hB.size
            have nxf : Vc.heap.size ≠ W.heap.size := by have := xf.lt; omega
            replace xf := xf.alloc (.cells #[.string ⟨#[]⟩, .string ⟨#[]⟩, .int .i64 0, .int .i64 0, .int .i64 0] 37)
            have nxr : Vc.heap.size ≠ W.heap.size + 1 := by have := xr.lt; omega
            replace xr := xr.alloc (.cells #[.string ⟨#[]⟩, .string ⟨#[]⟩, .int .i64 0, .int .i64 0, .int .i64 0] 37)
            replace hB := hB.alloc hB.size (.cells #[.string ⟨#[]⟩, .string ⟨#[]⟩, .int .i64 0, .int .i64 0, .int .i64 0] 37)
            generalize Vc.alloc (.cells #[.string ⟨#[]⟩, .string ⟨#[]⟩, .int .i64 0, .int .i64 0, .int .i64 0] 37) = Vz at *
            clear hHeld
            refine hK.out _ _ ?_ (fun hHeld => ?_)
            · exact ⟨xf.cell 0 rfl, xf.cell 1 rfl, xf.cell 2 rfl, xf.cell 3 rfl, xf.cell 4 rfl, (HC.out _ hB).1, (HC.out _ hB).2.1, (HC.out _ hB).2.2.1, (HC.out _ hB).2.2.2⟩
            clear hK K
            try simp only [Act.put, l1, l2, l3, l4, l5, l6]
            generalize Vc.heap.size = gz at *
            refine wpAnyH_ready (rs := [10]) (by kernel_rfl) (by simp) ?_
            refine AllReadyH.cons rfl (fun K hK => ?_) AllReadyH.nil
            have z0 := xb.cell 0 rfl
            have y0 := xb.frozen 0
            have z1 := xb.cell 1 rfl
            have y1 := xb.frozen 1
            have z2 := xb.cell 2 rfl
            have y2 := xb.frozen 2
            have z3 := xb.cell 3 rfl
            have y3 := xb.frozen 3
            have z4 := xb.cell 4 rfl
            have y4 := xb.frozen 4
            go_simp
            clear z0 y0 z1 y1 z2 y2 z3 y3 z4 y4
            replace xf := (((((xf.other nxf 0 (.string a.b0)).other nxf 1 (.string a.b1)).other nxf 2 (.int .i64 a.e0)).other nxf 3 (.int .i64 a.e1)).other nxf 4 (.int .i64 a.lim))
            replace xr := (((((xr.other nxr 0 (.string a.b0)).other nxr 1 (.string a.b1)).other nxr 2 (.int .i64 a.e0)).other nxr 3 (.int .i64 a.e1)).other nxr 4 (.int .i64 a.lim))
            replace xb : Box 37 (((((Vz.setCell ⟨gz, 0, none⟩ (.string a.b0)).setCell ⟨gz, 1, none⟩ (.string a.b1)).setCell ⟨gz, 2, none⟩ (.int .i64 a.e0)).setCell ⟨gz, 3, none⟩ (.int .i64 a.e1)).setCell ⟨gz, 4, none⟩ (.int .i64 a.lim)) gz [.string a.b0, .string a.b1, .int .i64 a.e0, .int .i64 a.e1, .int .i64 a.lim] := (((((xb.set 0 (.string a.b0)).set 1 (.string a.b1)).set 2 (.int .i64 a.e0)).set 3 (.int .i64 a.e1)).set 4 (.int .i64 a.lim))
            replace hB : Below W.heap.size W (((((Vz.setCell ⟨gz, 0, none⟩ (.string a.b0)).setCell ⟨gz, 1, none⟩ (.string a.b1)).setCell ⟨gz, 2, none⟩ (.int .i64 a.e0)).setCell ⟨gz, 3, none⟩ (.int .i64 a.e1)).setCell ⟨gz, 4, none⟩ (.int .i64 a.lim)) := (((((hB.setCell hgz _).setCell hgz _).setCell hgz _).setCell hgz _).setCell hgz _)
            generalize (((((Vz.setCell ⟨gz, 0, none⟩ (.string a.b0)).setCell ⟨gz, 1, none⟩ (.string a.b1)).setCell ⟨gz, 2, none⟩ (.int .i64 a.e0)).setCell ⟨gz, 3, none⟩ (.int .i64 a.e1)).setCell ⟨gz, 4, none⟩ (.int .i64 a.lim)) = Vn at *
            clear hHeld
            refine hK.out _ _ ?_ (fun hHeld => ?_)
            · exact ⟨xf.cell 0 rfl, xf.cell 1 rfl, xf.cell 2 rfl, xf.cell 3 rfl, xf.cell 4 rfl, (HC.out _ hB).1, (HC.out _ hB).2.1, (HC.out _ hB).2.2.1, (HC.out _ hB).2.2.2⟩
            clear hK K
            try simp only [Act.put, l1, l2, l3, l4, l5, l6]
            refine tk 11 (v := ?_) rfl (Or.inl ⟨by rfl, ?_⟩) ?_; rotate_left
            · intro w hSw; (try dsimp only at hSw); go_simp; try with_reducible rfl
            try simp only [Act.put, l1, l2, l3, l4, l5, l6]
            refine wpAnyH_done (by kernel_rfl) ?_ _
            have cxf := xf.f5
            have cxr := xr.f5
            have cxb := xb.f5
            go_wp2
            clear cxf cxr cxb
            replace xf : Box 37 (((((Vn.setCell ⟨W.heap.size + 1, 0, none⟩ (.string a.b0)).setCell ⟨W.heap.size + 1, 1, none⟩ (.string a.b1)).setCell ⟨W.heap.size + 1, 2, none⟩ (.int .i64 a.e0)).setCell ⟨W.heap.size + 1, 3, none⟩ (.int .i64 a.e1)).setCell ⟨W.heap.size + 1, 4, none⟩ (.int .i64 a.lim)) (W.heap.size) [.string a.b0, .string a.b1, .int .i64 a.e0, .int .i64 a.e1, .int .i64 a.lim] := (((((xf.other (by omega) 0 (.string a.b0)).other (by omega) 1 (.string a.b1)).other (by omega) 2 (.int .i64 a.e0)).other (by omega) 3 (.int .i64 a.e1)).other (by omega) 4 (.int .i64 a.lim))
            replace xb : Box 37 (((((Vn.setCell ⟨W.heap.size + 1, 0, none⟩ (.string a.b0)).setCell ⟨W.heap.size + 1, 1, none⟩ (.string a.b1)).setCell ⟨W.heap.size + 1, 2, none⟩ (.int .i64 a.e0)).setCell ⟨W.heap.size + 1, 3, none⟩ (.int .i64 a.e1)).setCell ⟨W.heap.size + 1, 4, none⟩ (.int .i64 a.lim)) (gz) [.string a.b0, .string a.b1, .int .i64 a.e0, .int .i64 a.e1, .int .i64 a.lim] := (((((xb.other (by omega) 0 (.string a.b0)).other (by omega) 1 (.string a.b1)).other (by omega) 2 (.int .i64 a.e0)).other (by omega) 3 (.int .i64 a.e1)).other (by omega) 4 (.int .i64 a.lim))
            replace xr : Box 37 (((((Vn.setCell ⟨W.heap.size + 1, 0, none⟩ (.string a.b0)).setCell ⟨W.heap.size + 1, 1, none⟩ (.string a.b1)).setCell ⟨W.heap.size + 1, 2, none⟩ (.int .i64 a.e0)).setCell ⟨W.heap.size + 1, 3, none⟩ (.int .i64 a.e1)).setCell ⟨W.heap.size + 1, 4, none⟩ (.int .i64 a.lim)) (W.heap.size + 1) [.string a.b0, .string a.b1, .int .i64 a.e0, .int .i64 a.e1, .int .i64 a.lim] := (((((xr.set 0 (.string a.b0)).set 1 (.string a.b1)).set 2 (.int .i64 a.e0)).set 3 (.int .i64 a.e1)).set 4 (.int .i64 a.lim))
            replace hB : Below W.heap.size W (((((Vn.setCell ⟨W.heap.size + 1, 0, none⟩ (.string a.b0)).setCell ⟨W.heap.size + 1, 1, none⟩ (.string a.b1)).setCell ⟨W.heap.size + 1, 2, none⟩ (.int .i64 a.e0)).setCell ⟨W.heap.size + 1, 3, none⟩ (.int .i64 a.e1)).setCell ⟨W.heap.size + 1, 4, none⟩ (.int .i64 a.lim)) := (((((hB.setCell le_xr _).setCell le_xr _).setCell le_xr _).setCell le_xr _).setCell le_xr _)
            generalize (((((Vn.setCell ⟨W.heap.size + 1, 0, none⟩ (.string a.b0)).setCell ⟨W.heap.size + 1, 1, none⟩ (.string a.b1)).setCell ⟨W.heap.size + 1, 2, none⟩ (.int .i64 a.e0)).setCell ⟨W.heap.size + 1, 3, none⟩ (.int .i64 a.e1)).setCell ⟨W.heap.size + 1, 4, none⟩ (.int .i64 a.lim)) = V51 at *
            have cxf := xf.f5
            have cxr := xr.f5
            have cxb := xb.f5
            exact bodyPost_ret (v := .tuple #[.agg #[.string a.b0, .string a.b1, .int .i64 a.e0, .int .i64 a.e1, .int .i64 a.lim], .int .i64 (n : Int), .int .i64 (doErr a o)]) (by simp [results, Tryz.results11, go_sem, cxr]) rfl ⟨rfl, hB⟩
          · go_simp
            have xb := Box.new 37 Vd [.string ⟨#[]⟩, .string ⟨#[]⟩, .int .i64 0, .int .i64 0, .int .i64 0]
            have hgz : W.heap.size ≤ Vd.heap.size := hB.size
            have nxf : Vd.heap.size ≠ W.heap.size := by have := xf.lt; omega
            replace xf := xf.alloc (.cells #[.string ⟨#[]⟩, .string ⟨#[]⟩, .int .i64 0, .int .i64 0, .int .i64 0] 37)
            have nxr : Vd.heap.size ≠ W.heap.size + 1 := by have := xr.lt; omega
            replace xr := xr.alloc (.cells #[.string ⟨#[]⟩, .string ⟨#[]⟩, .int .i64 0, .int .i64 0, .int .i64 0] 37)
            replace hB := hB.alloc hB.size (.cells #[.string ⟨#[]⟩, .string ⟨#[]⟩, .int .i64 0, .int .i64 0, .int .i64 0] 37)
            generalize Vd.alloc (.cells #[.string ⟨#[]⟩, .string ⟨#[]⟩, .int .i64 0, .int .i64 0, .int .i64 0] 37) = Va at *
            clear hHeld
            refine hK.out _ _ ?_ (fun hHeld => ?_)
            · exact ⟨xf.cell 0 rfl, xf.cell 1 rfl, xf.cell 2 rfl, xf.cell 3 rfl, xf.cell 4 rfl, (HC.out _ hB).1, (HC.out _ hB).2.1, (HC.out _ hB).2.2.1, (HC.out _ hB).2.2.2⟩
            clear hK K
            try simp only [Act.put, l1, l2, l3, l4, l5, l6]
            refine wpAnyH_ready (rs := [5]) (by kernel_rfl) (by simp) ?_
            refine AllReadyH.cons rfl (fun K hK => ?_) AllReadyH.nil
            go_simp
            refine (TD.out _).mono ?_
            rintro e Vz ⟨rfl, hh⟩
            replace hB := below_seq hB hh
            replace xf := xf.seq hh
            replace xr := xr.seq hh
            replace xb := xb.seq hh
            clear hHeld
            refine hK.out _ _ ?_ (fun hHeld => ?_)
            · exact ⟨xf.cell 0 rfl, xf.cell 1 rfl, xf.cell 2 rfl, xf.cell 3 rfl, xf.cell 4 rfl, (HC.out _ hB).1, (HC.out _ hB).2.1, (HC.out _ hB).2.2.1, (HC.out _ hB).2.2.2⟩
            clear hK K
            try simp only [Act.put, l1, l2, l3, l4, l5, l6]
            refine tk 6 (v := ?_) rfl (Or.inl ⟨by rfl, ?_⟩) ?_; rotate_left
            · intro w hSw; (try dsimp only at hSw); go_simp; try with_reducible rfl
            try simp only [Act.put, l1, l2, l3, l4, l5, l6]
            refine tk 7 (v := ?_) rfl (Or.inl ⟨by rfl, ?_⟩) ?_; rotate_left
            · intro w hSw; (try dsimp only at hSw); go_simp; try with_reducible rfl
            try simp only [Act.put, l1, l2, l3, l4, l5, l6]
            refine tk 8 (v := ?_) rfl (Or.inl ⟨by rfl, ?_⟩) ?_; rotate_left
            · intro w hSw; (try dsimp only at hSw); go_simp; try with_reducible rfl
            try simp only [Act.put, l1, l2, l3, l4, l5, l6]
            generalize Vd.heap.size = gz at *
            refine wpAnyH_ready (rs := [10]) (by kernel_rfl) (by simp) ?_
            refine AllReadyH.cons rfl (fun K hK => ?_) AllReadyH.nil
            have z0 := xb.cell 0 rfl
            have y0 := xb.frozen 0
            have z1 := xb.cell 1 rfl
            have y1 := xb.frozen 1
            have z2 := xb.cell 2 rfl
            have y2 := xb.frozen 2
            have z3 := xb.cell 3 rfl
            have y3 := xb.frozen 3
            have z4 := xb.cell 4 rfl
            have y4 := xb.frozen 4
            go_simp
            clear z0 y0 z1 y1 z2 y2 z3 y3 z4 y4
            replace xf := (((((xf.other nxf 0 (.string a.b0)).other nxf 1 (.string a.b1)).other nxf 2 (.int .i64 a.e0)).other nxf 3 (.int .i64 a.e1)).other nxf 4 (.int .i64 a.lim))
            replace xr := (((((xr.other nxr 0 (.string a.b0)).other nxr 1 (.string a.b1)).other nxr 2 (.int .i64 a.e0)).other nxr 3 (.int .i64 a.e1)).other nxr 4 (.int .i64 a.lim))
            replace xb : Box 37 (((((Vz.setCell ⟨gz, 0, none⟩ (.string a.b0)).setCell ⟨gz, 1, none⟩ (.string a.b1)).setCell ⟨gz, 2, none⟩ (.int .i64 a.e0)).setCell ⟨gz, 3, none⟩ (.int .i64 a.e1)).setCell ⟨gz, 4, none⟩ (.int .i64 a.lim)) gz [.string a.b0, .string a.b1, .int .i64 a.e0, .int .i64 a.e1, .int .i64 a.lim] := (((((xb.set 0 (.string a.b0)).set 1 (.string a.b1)).set 2 (.int .i64 a.e0)).set 3 (.int .i64 a.e1)).set 4 (.int .i64 a.lim))
            replace hB : Below W.heap.size W (((((Vz.setCell ⟨gz, 0, none⟩ (.string a.b0)).setCell ⟨gz, 1, none⟩ (.string a.b1)).setCell ⟨gz, 2, none⟩ (.int .i64 a.e0)).setCell ⟨gz, 3, none⟩ (.int .i64 a.e1)).setCell ⟨gz, 4, none⟩ (.int .i64 a.lim)) := (((((hB.setCell hgz _).setCell hgz _).setCell hgz _).setCell hgz _).setCell hgz _)
            generalize (((((Vz.setCell ⟨gz, 0, none⟩ (.string a.b0)).setCell ⟨gz, 1, none⟩ (.string a.b1)).setCell ⟨gz, 2, none⟩ (.int .i64 a.e0)).setCell ⟨gz, 3, none⟩ (.int .i64 a.e1)).setCell ⟨gz, 4, none⟩ (.int .i64 a.lim)) = Vn at *
            clear hHeld
            refine hK.out _ _ ?_ (fun hHeld => ?_)
            · exact ⟨xf.cell 0 rfl, xf.cell 1 rfl, xf.cell 2 rfl, xf.cell 3 rfl, xf.cell 4 rfl, (HC.out _ hB).1, (HC.out _ hB).2.1, (HC.out _ hB).2.2.1, (HC.out _ hB).2.2.2⟩
            clear hK K
            try simp only [Act.put, l1, l2, l3, l4, l5, l6]
            refine tk 11 (v := ?_) rfl (Or.inl ⟨by rfl, ?_⟩) ?_; rotate_left
            · intro w hSw; (try dsimp only at hSw); go_simp; try with_reducible rfl
            try simp only [Act.put, l1, l2, l3, l4, l5, l6]
            refine wpAnyH_done (by kernel_rfl) ?_ _
            have cxf := xf.f5
            have cxr := xr.f5
            have cxb := xb.f5
            go_wp2
            clear cxf cxr cxb
            replace xf : Box 37 (((((Vn.setCell ⟨W.heap.size + 1, 0, none⟩ (.string a.b0)).setCell ⟨W.heap.size + 1, 1, none⟩ (.string a.b1)).setCell ⟨W.heap.size + 1, 2, none⟩ (.int .i64 a.e0)).setCell ⟨W.heap.size + 1, 3, none⟩ (.int .i64 a.e1)).setCell ⟨W.heap.size + 1, 4, none⟩ (.int .i64 a.lim)) (W.heap.size) [.string a.b0, .string a.b1, .int .i64 a.e0, .int .i64 a.e1, .int .i64 a.lim] := (((((xf.other (by omega) 0 (.string a.b0)).other (by omega) 1 (.string a.b1)).other (by omega) 2 (.int .i64 a.e0)).other (by omega) 3 (.int .i64 a.e1)).other (by omega) 4 (.int .i64 a.lim))
            replace xb : Box 37 (((((Vn.setCell ⟨W.heap.size + 1, 0, none⟩ (.string a.b0)).setCell ⟨W.heap.size + 1, 1, none⟩ (.string a.b1)).setCell ⟨W.heap.size + 1, 2, none⟩ (.int .i64 a.e0)).setCell ⟨W.heap.size + 1, 3, none⟩ (.int .i64 a.e1)).setCell ⟨W.heap.size + 1, 4, none⟩ (.int .i64 a.lim)) (gz) [.string a.b0, .string a.b1, .int .i64 a.e0, .int .i64 a.e1, .int .i64 a.lim] := (((((xb.other (by omega) 0 (.string a.b0)).other (by omega) 1 (.string a.b1)).other (by omega) 2 (.int .i64 a.e0)).other (by omega) 3 (.int .i64 a.e1)).other (by omega) 4 (.int .i64 a.lim))
            replace xr : Box 37 (((((Vn.setCell ⟨W.heap.size + 1, 0, none⟩ (.string a.b0)).setCell ⟨W.heap.size + 1, 1, none⟩ (.string a.b1)).setCell ⟨W.heap.size + 1, 2, none⟩ (.int .i64 a.e0)).setCell ⟨W.heap.size + 1, 3, none⟩ (.int .i64 a.e1)).setCell ⟨W.heap.size + 1, 4, none⟩ (.int .i64 a.lim)) (W.heap.size + 1) [.string a.b0, .string a.b1, .int .i64 a.e0, .int .i64 a.e1, .int .i64 a.lim] := (((((xr.set 0 (.string a.b0)).set 1 (.string a.b1)).set 2 (.int .i64 a.e0)).set 3 (.int .i64 a.e1)).set 4 (.int .i64 a.lim))
            replace hB : Below W.heap.size W (((((Vn.setCell ⟨W.heap.size + 1, 0, none⟩ (.string a.b0)).setCell ⟨W.heap.size + 1, 1, none⟩ (.string a.b1)).setCell ⟨W.heap.size + 1, 2, none⟩ (.int .i64 a.e0)).setCell ⟨W.heap.size + 1, 3, none⟩ (.int .i64 a.e1)).setCell ⟨W.heap.size + 1, 4, none⟩ (.int .i64 a.lim)) := (((((hB.setCell le_xr _).setCell le_xr _).setCell le_xr _).setCell le_xr _).setCell le_xr _)
            generalize (((((Vn.setCell ⟨W.heap.size + 1, 0, none⟩ (.string a.b0)).setCell ⟨W.heap.size + 1, 1, none⟩ (.string a.b1)).setCell ⟨W.heap.size + 1, 2, none⟩ (.int .i64 a.e0)).setCell ⟨W.heap.size + 1, 3, none⟩ (.int .i64 a.e1)).setCell ⟨W.heap.size + 1, 4, none⟩ (.int .i64 a.lim)) = V51 at *
            have cxf := xf.f5
            have cxr := xr.f5
            have cxb := xb.f5
            exact bodyPost_ret (v := .tuple #[.agg #[.string a.b0, .string a.b1, .int .i64 a.e0, .int .i64 a.e1, .int .i64 a.lim], .int .i64 (n : Int), .int .i64 (doErr a o)]) (by simp [results, Tryz.results11, go_sem, cxr]) rfl ⟨rfl, hB⟩
    · obtain rfl : k = l.length := by omega
      have HS := HR.out.symm.trans (HP.out.trans play_end)
      simp only [Prod.mk.injEq] at HS
      obtain ⟨rfl, rfl, rfl⟩ := HS
      clear HP HR HOP
      have cxf := xf.f5
      have cxr := xr.f5
      go_wp2
      clear cxf cxr
      replace xf : Box 37 (((((wr.setCell ⟨W.heap.size + 1, 0, none⟩ (.string a.b0)).setCell ⟨W.heap.size + 1, 1, none⟩ (.string a.b1)).setCell ⟨W.heap.size + 1, 2, none⟩ (.int .i64 a.e0)).setCell ⟨W.heap.size + 1, 3, none⟩ (.int .i64 a.e1)).setCell ⟨W.heap.size + 1, 4, none⟩ (.int .i64 a.lim)) (W.heap.size) [.string a.b0, .string a.b1, .int .i64 a.e0, .int .i64 a.e1, .int .i64 a.lim] := (((((xf.other (by omega) 0 (.string a.b0)).other (by omega) 1 (.string a.b1)).other (by omega) 2 (.int .i64 a.e0)).other (by omega) 3 (.int .i64 a.e1)).other (by omega) 4 (.int .i64 a.lim))
      replace xr : Box 37 (((((wr.setCell ⟨W.heap.size + 1, 0, none⟩ (.string a.b0)).setCell ⟨W.heap.size + 1, 1, none⟩ (.string a.b1)).setCell ⟨W.heap.size + 1, 2, none⟩ (.int .i64 a.e0)).setCell ⟨W.heap.size + 1, 3, none⟩ (.int .i64 a.e1)).setCell ⟨W.heap.size + 1, 4, none⟩ (.int .i64 a.lim)) (W.heap.size + 1) [.string a.b0, .string a.b1, .int .i64 a.e0, .int .i64 a.e1, .int .i64 a.lim] := (((((xr.set 0 (.string a.b0)).set 1 (.string a.b1)).set 2 (.int .i64 a.e0)).set 3 (.int .i64 a.e1)).set 4 (.int .i64 a.lim))
      replace hB : Below W.heap.size W (((((wr.setCell ⟨W.heap.size + 1, 0, none⟩ (.string a.b0)).setCell ⟨W.heap.size + 1, 1, none⟩ (.string a.b1)).setCell ⟨W.heap.size + 1, 2, none⟩ (.int .i64 a.e0)).setCell ⟨W.heap.size + 1, 3, none⟩ (.int .i64 a.e1)).setCell ⟨W.heap.size + 1, 4, none⟩ (.int .i64 a.lim)) := (((((hB.setCell le_xr _).setCell le_xr _).setCell le_xr _).setCell le_xr _).setCell le_xr _)
      generalize (((((wr.setCell ⟨W.heap.size + 1, 0, none⟩ (.string a.b0)).setCell ⟨W.heap.size + 1, 1, none⟩ (.string a.b1)).setCell ⟨W.heap.size + 1, 2, none⟩ (.int .i64 a.e0)).setCell ⟨W.heap.size + 1, 3, none⟩ (.int .i64 a.e1)).setCell ⟨W.heap.size + 1, 4, none⟩ (.int .i64 a.lim)) = V51 at *
      have cxf := xf.f5
      have cxr := xr.f5
      exact bodyPost_ret (v := .tuple #[.agg #[.string a.b0, .string a.b1, .int .i64 a.e0, .int .i64 a.e1, .int .i64 a.lim], .int .i64 (l.length : Int), .int .i64 0]) (by simp [results, Tryz.results11, go_sem, cxr]) rfl ⟨rfl, hB⟩

end Go.Proofs.YtiacdcnpkfpjaaaGreat

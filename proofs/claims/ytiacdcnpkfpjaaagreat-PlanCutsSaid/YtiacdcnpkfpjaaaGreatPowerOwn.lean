/- The program's own Play: contracts only. -/
import Derived.Test.YtiacdcnpkfpjaaaGreatPowerTear
import Derived.WalkKit
import Derived.WalkMore
import Derived.ScopeJumps
import Derived.ProofKit
import Derived.OwnWalk
import Derived.Lib.Hide
import Derived.BigQuiet
import Derived.Deep.QuietTactic
import Derived.Deep.RegionHeld3
import Derived.IntWalk
import Derived.WalkLawsBesides
namespace Go.Proofs.YtiacdcnpkfpjaaaGreat
open Go.RowKit
set_option linter.unusedVariables false
set_option linter.unusedSimpArgs false

set_option maxRecDepth 100000 in
set_option maxHeartbeats 4000000 in
theorem own04Play (f : Fl) (l : List PwOp) (A : Option Addr) (c : Nat) (cut : Int) (m : ByteArray) (W : World) (hf : f.fit) (ho : ∀ o ∈ l, o.ok) (hl : OpsAt W A l) (hm : m.size ≤ maxLen) (hc : l.length ≤ c ∧ c ≤ maxLen) :
    Calls Tryz.prog 14 #[.agg #[.string f.b0, .string f.b1, .int .i64 f.e0, .int .i64 f.e1, .int .i64 f.lim], .slice A l.length c, .int .i64 cut, .string m] W fun e W' => e = .returned (.tuple #[.agg #[.string (playR f l cut m).1.b0, .string (playR f l cut m).1.b1, .int .i64 (playR f l cut m).1.e0, .int .i64 (playR f l cut m).1.e1, .int .i64 (playR f l cut m).1.lim], .int .i64 ((playR f l cut m).2.1 : Int), .int .i64 (playR f l cut m).2.2]) ∧ Below W.heap.size W W' := by
  obtain ⟨hc1, hc2⟩ := hc
  have hm2 := hm
  unfold maxLen at hc2
  obtain ⟨a, n, e, HR⟩ : ∃ a n e, playR f l cut m = (a, n, e) := ⟨_, _, _, rfl⟩
  rw [HR]
  dsimp only
  have HOP := Lib.hid (fun (k : Nat) (o : PwOp) (hk : l[k]? = some o) => (show ∃ g off, A = some ⟨g, off, none⟩ ∧ ∀ V : World, Below W.heap.size W V → (V.cell? ⟨g, off + k * 4, none⟩ = some (.int .i64 o.kind) ∧ V.cell? ⟨g, off + k * 4 + 1, none⟩ = some (.int .i64 o.bank) ∧ V.cell? ⟨g, off + k * 4 + 2, none⟩ = some (.int .i64 o.q) ∧ V.cell? ⟨g, off + k * 4 + 3, none⟩ = some (.string o.d)) from by
    have hk1 : k < l.length := (List.getElem?_eq_some_iff.1 hk).1
    obtain ⟨g, off, e, hg, hcl⟩ := hl (by omega)
    refine ⟨g, off, e, fun V hV => ?_⟩
    obtain ⟨a, b, c, d⟩ := hcl k o hk
    exact ⟨(hV.cell (p := ⟨g, _, none⟩) hg).trans a, (hV.cell (p := ⟨g, _, none⟩) hg).trans b, (hV.cell (p := ⟨g, _, none⟩) hg).trans c, (hV.cell (p := ⟨g, _, none⟩) hg).trans d⟩))
  replace HR := Lib.hid HR
  replace hl := Lib.hid hl
  have hB : Below W.heap.size W ((W.alloc (.cells #[.string f.b0, .string f.b1, .int .i64 f.e0, .int .i64 f.e1, .int .i64 f.lim] 25)).alloc (.cells #[.string ⟨#[]⟩, .string ⟨#[]⟩, .int .i64 0, .int .i64 0, .int .i64 0] 25)) := (((Below.refl _ _).alloc (Nat.le_refl _) _).alloc (by simp) _)
  have xf := ((Box.new 25 W [.string f.b0, .string f.b1, .int .i64 f.e0, .int .i64 f.e1, .int .i64 f.lim]).alloc (.cells #[.string ⟨#[]⟩, .string ⟨#[]⟩, .int .i64 0, .int .i64 0, .int .i64 0] 25))
  have xr : Box 25 ((W.alloc (.cells #[.string f.b0, .string f.b1, .int .i64 f.e0, .int .i64 f.e1, .int .i64 f.lim] 25)).alloc (.cells #[.string ⟨#[]⟩, .string ⟨#[]⟩, .int .i64 0, .int .i64 0, .int .i64 0] 25)) (W.heap.size + 1) [.string ⟨#[]⟩, .string ⟨#[]⟩, .int .i64 0, .int .i64 0, .int .i64 0] := by have h := (Box.new 25 (W.alloc (.cells #[.string f.b0, .string f.b1, .int .i64 f.e0, .int .i64 f.e1, .int .i64 f.lim] 25)) [.string ⟨#[]⟩, .string ⟨#[]⟩, .int .i64 0, .int .i64 0, .int .i64 0]); rwa [World.size_alloc] at h
  have le_xr : W.heap.size ≤ W.heap.size + 1 := by omega
  go_enter Tryz.func14, Tryz.ntmps14
  go_wp2
  generalize ((W.alloc (.cells #[.string f.b0, .string f.b1, .int .i64 f.e0, .int .i64 f.e1, .int .i64 f.lim] 25)).alloc (.cells #[.string ⟨#[]⟩, .string ⟨#[]⟩, .int .i64 0, .int .i64 0, .int .i64 0] 25)) = V1 at *
  refine wp_scope_jumps 0 (fun a' w' => ∃ (u5 u6 u7 u9 u10 u11 u12 u13 u14 u15 u16 u17 u18 u19 u20 u21 u22 u23 u24 u25 u26 u27 u28 u29 u30 u31 u32 u33 u34 u35 u36 u37 u38 u39 u40 u41 u42 u43 u44 u45 u46 u47 u48 u49 u50 u51 : Value) (k : Nat) (g : Fl), a' = { tmps := #[.agg #[.string f.b0, .string f.b1, .int .i64 f.e0, .int .i64 f.e1, .int .i64 f.lim], .slice A l.length c, .int .i64 cut, .string m, .pointer (some ⟨W.heap.size, 0, none⟩), u5, u6, u7, .pointer (some ⟨W.heap.size + 1, 0, none⟩), u9, u10, u11, u12, u13, u14, u15, u16, u17, u18, u19, u20, u21, u22, u23, u24, u25, u26, u27, u28, u29, u30, u31, u32, u33, u34, u35, u36, u37, u38, u39, u40, u41, u42, u43, u44, u45, u46, u47, u48, u49, u50, u51], defers := [] } ∧ cut = (k : Int) ∧ k < l.length ∧ g.fit ∧ playR f l cut m = playG cut m (l.drop k) g k ∧ Box 25 w' W.heap.size [.string g.b0, .string g.b1, .int .i64 g.e0, .int .i64 g.e1, .int .i64 g.lim] ∧ Box 25 w' (W.heap.size + 1) [.string ⟨#[]⟩, .string ⟨#[]⟩, .int .i64 0, .int .i64 0, .int .i64 0] ∧ Below W.heap.size W w') (fun _ _ => 0) rfl ?_ ?_
  · go_wp2
    go_loopw [16] (fun i w => ∃ (k : Nat) (g : Fl), k ≤ l.length ∧ i = .int .i64 k ∧ g.fit ∧ playR f l cut m = playG cut m (l.drop k) g k ∧ Box 25 w W.heap.size [.string g.b0, .string g.b1, .int .i64 g.e0, .int .i64 g.e1, .int .i64 g.lim] ∧ Box 25 w (W.heap.size + 1) [.string ⟨#[]⟩, .string ⟨#[]⟩, .int .i64 0, .int .i64 0, .int .i64 0] ∧ Below W.heap.size W w) (fun i _ => l.length - (intOf i).toNat)
    case atStart => exact ⟨0, f, Nat.zero_le _, rfl, hf, rfl, xf, xr, hB⟩
    case round =>
      clear xf xr hB
      obtain ⟨k, g, hk, rfl, hgk, HP, xf, xr, hB⟩ := hrel
      replace HP := Lib.hid HP
      by_cases hlt : k < l.length
      · obtain ⟨o, hoo⟩ : ∃ o, l[k]? = some o := ⟨_, List.getElem?_eq_getElem hlt⟩
        obtain ⟨gL, off, rfl, HC⟩ := HOP.out k o hoo
        have hok := ho o (List.mem_of_getElem? hoo)
        obtain ⟨y0, y1, y2, y3⟩ := HC wr hB
        replace HC := Lib.hid HC
        have j0 : (0 : Int) ≤ (k : Int) := by omega
        have j1 : (k : Int) < (l.length : Int) := by omega
        have j2 : ¬ 9223372036854775807 < (k : Int) + 1 := by omega
        by_cases hkc : (k : Int) = cut
        · have hkc2 := Lib.hid hkc
          have n1 : ((k : Int) == cut) = true := beq_iff_eq.2 hkc
          clear hkc hoo
          have xp := Box.new 46 wr [.int .i64 o.kind, .int .i64 o.bank, .int .i64 o.q, .string o.d]
          have ne_xp_xf : wr.heap.size ≠ W.heap.size := Nat.ne_of_gt xf.lt
          have ne_xp_xr : wr.heap.size ≠ W.heap.size + 1 := Nat.ne_of_gt xr.lt
          have le_xp : W.heap.size ≤ wr.heap.size := hB.size
          replace xf := xf.alloc (.cells #[.int .i64 o.kind, .int .i64 o.bank, .int .i64 o.q, .string o.d] 46)
          replace xr := xr.alloc (.cells #[.int .i64 o.kind, .int .i64 o.bank, .int .i64 o.q, .string o.d] 46)
          replace hB := hB.alloc hB.size (.cells #[.int .i64 o.kind, .int .i64 o.bank, .int .i64 o.q, .string o.d] 46)
          have cxf := xf.f5
          have cxr := xr.f5
          have cxp := xp.f4
          go_wp2
          go_step3
          exact ⟨rfl, _, _, _, _, _, _, _, _, _, _, _, _, _, _, _, _, _, _, _, _, _, _, _, _, _, _, _, _, _, _, _, _, _, _, _, _, _, _, _, _, _, _, _, _, _, _, k, g, rfl, hkc2.out.symm, hlt, hgk, HP.out, xf, xr, hB⟩
        · have hkc2 := Lib.hid hkc
          have n1 : ((k : Int) == cut) = false := beq_eq_false_iff_ne.2 hkc
          clear hkc
          by_cases he : doErr g o = 0
          · have HS := Lib.hid (HP.out.trans (play_step hoo hkc2.out he))
            have hgn := doF_fit hgk o
            have TD := Lib.hid (fun (V : World) => (show Calls Tryz.prog 25 #[.agg #[.string g.b0, .string g.b1, .int .i64 g.e0, .int .i64 g.e1, .int .i64 g.lim], .agg #[.int .i64 o.kind, .int .i64 o.bank, .int .i64 o.q, .string o.d]] V fun e' W' => e' = .returned (.tuple #[.agg #[.string (doF g o).b0, .string (doF g o).b1, .int .i64 (doF g o).e0, .int .i64 (doF g o).e1, .int .i64 (doF g o).lim], .int .i64 0]) ∧ Below V.heap.size V W' from by have h := own04Do g o V hgk hok; rwa [he] at h))
            clear he hoo HP
            generalize doF g o = g' at *
            have xp := Box.new 46 wr [.int .i64 o.kind, .int .i64 o.bank, .int .i64 o.q, .string o.d]
            have ne_xp_xf : wr.heap.size ≠ W.heap.size := Nat.ne_of_gt xf.lt
            have ne_xp_xr : wr.heap.size ≠ W.heap.size + 1 := Nat.ne_of_gt xr.lt
            have le_xp : W.heap.size ≤ wr.heap.size := hB.size
            replace xf := xf.alloc (.cells #[.int .i64 o.kind, .int .i64 o.bank, .int .i64 o.q, .string o.d] 46)
            replace xr := xr.alloc (.cells #[.int .i64 o.kind, .int .i64 o.bank, .int .i64 o.q, .string o.d] 46)
            replace hB := hB.alloc hB.size (.cells #[.int .i64 o.kind, .int .i64 o.bank, .int .i64 o.q, .string o.d] 46)
            have cxf := xf.f5
            have cxr := xr.f5
            have cxp := xp.f4
            go_wp2_with fail
            refine (TD.out _).mono ?_
            rintro e V2 ⟨rfl, hk⟩
            clear cxf cxr cxp
            replace hB := below_seq hB hk
            replace xf := xf.seq hk
            replace xr := xr.seq hk
            replace xp := xp.seq hk
            clear hk
            have cxf := xf.f5
            have cxr := xr.f5
            have cxp := xp.f4
            go_wp2
            clear cxf cxr cxp
            replace xr : Box 25 (((((V2.setCell ⟨W.heap.size, 0, none⟩ (.string g'.b0)).setCell ⟨W.heap.size, 1, none⟩ (.string g'.b1)).setCell ⟨W.heap.size, 2, none⟩ (.int .i64 g'.e0)).setCell ⟨W.heap.size, 3, none⟩ (.int .i64 g'.e1)).setCell ⟨W.heap.size, 4, none⟩ (.int .i64 g'.lim)) (W.heap.size + 1) [.string ⟨#[]⟩, .string ⟨#[]⟩, .int .i64 0, .int .i64 0, .int .i64 0] := (((((xr.other (by omega) 0 (.string g'.b0)).other (by omega) 1 (.string g'.b1)).other (by omega) 2 (.int .i64 g'.e0)).other (by omega) 3 (.int .i64 g'.e1)).other (by omega) 4 (.int .i64 g'.lim))
            replace xp := (((((xp.other (Ne.symm ne_xp_xf) 0 (.string g'.b0)).other (Ne.symm ne_xp_xf) 1 (.string g'.b1)).other (Ne.symm ne_xp_xf) 2 (.int .i64 g'.e0)).other (Ne.symm ne_xp_xf) 3 (.int .i64 g'.e1)).other (Ne.symm ne_xp_xf) 4 (.int .i64 g'.lim))
            replace xf : Box 25 (((((V2.setCell ⟨W.heap.size, 0, none⟩ (.string g'.b0)).setCell ⟨W.heap.size, 1, none⟩ (.string g'.b1)).setCell ⟨W.heap.size, 2, none⟩ (.int .i64 g'.e0)).setCell ⟨W.heap.size, 3, none⟩ (.int .i64 g'.e1)).setCell ⟨W.heap.size, 4, none⟩ (.int .i64 g'.lim)) (W.heap.size) [.string g'.b0, .string g'.b1, .int .i64 g'.e0, .int .i64 g'.e1, .int .i64 g'.lim] := (((((xf.set 0 (.string g'.b0)).set 1 (.string g'.b1)).set 2 (.int .i64 g'.e0)).set 3 (.int .i64 g'.e1)).set 4 (.int .i64 g'.lim))
            replace hB : Below W.heap.size W (((((V2.setCell ⟨W.heap.size, 0, none⟩ (.string g'.b0)).setCell ⟨W.heap.size, 1, none⟩ (.string g'.b1)).setCell ⟨W.heap.size, 2, none⟩ (.int .i64 g'.e0)).setCell ⟨W.heap.size, 3, none⟩ (.int .i64 g'.e1)).setCell ⟨W.heap.size, 4, none⟩ (.int .i64 g'.lim)) := (((((hB.setCell (Nat.le_refl _) _).setCell (Nat.le_refl _) _).setCell (Nat.le_refl _) _).setCell (Nat.le_refl _) _).setCell (Nat.le_refl _) _)
            generalize (((((V2.setCell ⟨W.heap.size, 0, none⟩ (.string g'.b0)).setCell ⟨W.heap.size, 1, none⟩ (.string g'.b1)).setCell ⟨W.heap.size, 2, none⟩ (.int .i64 g'.e0)).setCell ⟨W.heap.size, 3, none⟩ (.int .i64 g'.e1)).setCell ⟨W.heap.size, 4, none⟩ (.int .i64 g'.lim)) = V3 at *
            go_roundw
            case rel => exact ⟨k + 1, g', by omega, by go_num, hgn, HS.out, xf, xr, hB⟩
            case measure => simp [intOf]; omega
          · have HS := HR.out.symm.trans (HP.out.trans (play_stop hoo hkc2.out he))
            simp only [Prod.mk.injEq] at HS
            obtain ⟨rfl, rfl, rfl⟩ := HS
            have TD := Lib.hid (fun (V : World) => (show Calls Tryz.prog 25 #[.agg #[.string a.b0, .string a.b1, .int .i64 a.e0, .int .i64 a.e1, .int .i64 a.lim], .agg #[.int .i64 o.kind, .int .i64 o.bank, .int .i64 o.q, .string o.d]] V fun e' W' => e' = .returned (.tuple #[.agg #[.string a.b0, .string a.b1, .int .i64 a.e0, .int .i64 a.e1, .int .i64 a.lim], .int .i64 (doErr a o)]) ∧ Below V.heap.size V W' from by have h := own04Do a o V hgk hok; rwa [doF_err he] at h))
            have n2 : (doErr a o != 0) = true := bne_iff_ne.2 he
            clear he hoo HP HR
            have xp := Box.new 46 wr [.int .i64 o.kind, .int .i64 o.bank, .int .i64 o.q, .string o.d]
            have ne_xp_xf : wr.heap.size ≠ W.heap.size := Nat.ne_of_gt xf.lt
            have ne_xp_xr : wr.heap.size ≠ W.heap.size + 1 := Nat.ne_of_gt xr.lt
            have le_xp : W.heap.size ≤ wr.heap.size := hB.size
            replace xf := xf.alloc (.cells #[.int .i64 o.kind, .int .i64 o.bank, .int .i64 o.q, .string o.d] 46)
            replace xr := xr.alloc (.cells #[.int .i64 o.kind, .int .i64 o.bank, .int .i64 o.q, .string o.d] 46)
            replace hB := hB.alloc hB.size (.cells #[.int .i64 o.kind, .int .i64 o.bank, .int .i64 o.q, .string o.d] 46)
            have cxf := xf.f5
            have cxr := xr.f5
            have cxp := xp.f4
            go_wp2_with fail
            refine (TD.out _).mono ?_
            rintro e V2 ⟨rfl, hk⟩
            clear cxf cxr cxp
            replace hB := below_seq hB hk
            replace xf := xf.seq hk
            replace xr := xr.seq hk
            replace xp := xp.seq hk
            clear hk
            have cxf := xf.f5
            have cxr := xr.f5
            have cxp := xp.f4
            go_wp2
            clear cxf cxr cxp
            replace xr : Box 25 (((((V2.setCell ⟨W.heap.size, 0, none⟩ (.string a.b0)).setCell ⟨W.heap.size, 1, none⟩ (.string a.b1)).setCell ⟨W.heap.size, 2, none⟩ (.int .i64 a.e0)).setCell ⟨W.heap.size, 3, none⟩ (.int .i64 a.e1)).setCell ⟨W.heap.size, 4, none⟩ (.int .i64 a.lim)) (W.heap.size + 1) [.string ⟨#[]⟩, .string ⟨#[]⟩, .int .i64 0, .int .i64 0, .int .i64 0] := (((((xr.other (by omega) 0 (.string a.b0)).other (by omega) 1 (.string a.b1)).other (by omega) 2 (.int .i64 a.e0)).other (by omega) 3 (.int .i64 a.e1)).other (by omega) 4 (.int .i64 a.lim))
            replace xp := (((((xp.other (Ne.symm ne_xp_xf) 0 (.string a.b0)).other (Ne.symm ne_xp_xf) 1 (.string a.b1)).other (Ne.symm ne_xp_xf) 2 (.int .i64 a.e0)).other (Ne.symm ne_xp_xf) 3 (.int .i64 a.e1)).other (Ne.symm ne_xp_xf) 4 (.int .i64 a.lim))
            replace xf : Box 25 (((((V2.setCell ⟨W.heap.size, 0, none⟩ (.string a.b0)).setCell ⟨W.heap.size, 1, none⟩ (.string a.b1)).setCell ⟨W.heap.size, 2, none⟩ (.int .i64 a.e0)).setCell ⟨W.heap.size, 3, none⟩ (.int .i64 a.e1)).setCell ⟨W.heap.size, 4, none⟩ (.int .i64 a.lim)) (W.heap.size) [.string a.b0, .string a.b1, .int .i64 a.e0, .int .i64 a.e1, .int .i64 a.lim] := (((((xf.set 0 (.string a.b0)).set 1 (.string a.b1)).set 2 (.int .i64 a.e0)).set 3 (.int .i64 a.e1)).set 4 (.int .i64 a.lim))
            replace hB : Below W.heap.size W (((((V2.setCell ⟨W.heap.size, 0, none⟩ (.string a.b0)).setCell ⟨W.heap.size, 1, none⟩ (.string a.b1)).setCell ⟨W.heap.size, 2, none⟩ (.int .i64 a.e0)).setCell ⟨W.heap.size, 3, none⟩ (.int .i64 a.e1)).setCell ⟨W.heap.size, 4, none⟩ (.int .i64 a.lim)) := (((((hB.setCell (Nat.le_refl _) _).setCell (Nat.le_refl _) _).setCell (Nat.le_refl _) _).setCell (Nat.le_refl _) _).setCell (Nat.le_refl _) _)
            generalize (((((V2.setCell ⟨W.heap.size, 0, none⟩ (.string a.b0)).setCell ⟨W.heap.size, 1, none⟩ (.string a.b1)).setCell ⟨W.heap.size, 2, none⟩ (.int .i64 a.e0)).setCell ⟨W.heap.size, 3, none⟩ (.int .i64 a.e1)).setCell ⟨W.heap.size, 4, none⟩ (.int .i64 a.lim)) = V3 at *
            replace xf : Box 25 (((((V3.setCell ⟨W.heap.size + 1, 0, none⟩ (.string a.b0)).setCell ⟨W.heap.size + 1, 1, none⟩ (.string a.b1)).setCell ⟨W.heap.size + 1, 2, none⟩ (.int .i64 a.e0)).setCell ⟨W.heap.size + 1, 3, none⟩ (.int .i64 a.e1)).setCell ⟨W.heap.size + 1, 4, none⟩ (.int .i64 a.lim)) (W.heap.size) [.string a.b0, .string a.b1, .int .i64 a.e0, .int .i64 a.e1, .int .i64 a.lim] := (((((xf.other (by omega) 0 (.string a.b0)).other (by omega) 1 (.string a.b1)).other (by omega) 2 (.int .i64 a.e0)).other (by omega) 3 (.int .i64 a.e1)).other (by omega) 4 (.int .i64 a.lim))
            replace xp := (((((xp.other (Ne.symm ne_xp_xr) 0 (.string a.b0)).other (Ne.symm ne_xp_xr) 1 (.string a.b1)).other (Ne.symm ne_xp_xr) 2 (.int .i64 a.e0)).other (Ne.symm ne_xp_xr) 3 (.int .i64 a.e1)).other (Ne.symm ne_xp_xr) 4 (.int .i64 a.lim))
            replace xr : Box 25 (((((V3.setCell ⟨W.heap.size + 1, 0, none⟩ (.string a.b0)).setCell ⟨W.heap.size + 1, 1, none⟩ (.string a.b1)).setCell ⟨W.heap.size + 1, 2, none⟩ (.int .i64 a.e0)).setCell ⟨W.heap.size + 1, 3, none⟩ (.int .i64 a.e1)).setCell ⟨W.heap.size + 1, 4, none⟩ (.int .i64 a.lim)) (W.heap.size + 1) [.string a.b0, .string a.b1, .int .i64 a.e0, .int .i64 a.e1, .int .i64 a.lim] := (((((xr.set 0 (.string a.b0)).set 1 (.string a.b1)).set 2 (.int .i64 a.e0)).set 3 (.int .i64 a.e1)).set 4 (.int .i64 a.lim))
            replace hB : Below W.heap.size W (((((V3.setCell ⟨W.heap.size + 1, 0, none⟩ (.string a.b0)).setCell ⟨W.heap.size + 1, 1, none⟩ (.string a.b1)).setCell ⟨W.heap.size + 1, 2, none⟩ (.int .i64 a.e0)).setCell ⟨W.heap.size + 1, 3, none⟩ (.int .i64 a.e1)).setCell ⟨W.heap.size + 1, 4, none⟩ (.int .i64 a.lim)) := (((((hB.setCell le_xr _).setCell le_xr _).setCell le_xr _).setCell le_xr _).setCell le_xr _)
            generalize (((((V3.setCell ⟨W.heap.size + 1, 0, none⟩ (.string a.b0)).setCell ⟨W.heap.size + 1, 1, none⟩ (.string a.b1)).setCell ⟨W.heap.size + 1, 2, none⟩ (.int .i64 a.e0)).setCell ⟨W.heap.size + 1, 3, none⟩ (.int .i64 a.e1)).setCell ⟨W.heap.size + 1, 4, none⟩ (.int .i64 a.lim)) = V4 at *
            have cxf := xf.f5
            have cxr := xr.f5
            have cxp := xp.f4
            simp only [Exit.jump]
            exact bodyPost_ret (v := .tuple #[.agg #[.string a.b0, .string a.b1, .int .i64 a.e0, .int .i64 a.e1, .int .i64 a.lim], .int .i64 (n : Int), .int .i64 (doErr a o)]) (by simp [results, Tryz.results14, go_sem, cxr]) rfl ⟨rfl, hB⟩
      · obtain rfl : k = l.length := by omega
        have HS := HR.out.symm.trans (HP.out.trans play_end)
        simp only [Prod.mk.injEq] at HS
        obtain ⟨rfl, rfl, rfl⟩ := HS
        clear HP HR
        have cxf := xf.f5
        have cxr := xr.f5
        go_wp2
        clear cxf cxr
        replace xf : Box 25 (((((wr.setCell ⟨W.heap.size + 1, 0, none⟩ (.string a.b0)).setCell ⟨W.heap.size + 1, 1, none⟩ (.string a.b1)).setCell ⟨W.heap.size + 1, 2, none⟩ (.int .i64 a.e0)).setCell ⟨W.heap.size + 1, 3, none⟩ (.int .i64 a.e1)).setCell ⟨W.heap.size + 1, 4, none⟩ (.int .i64 a.lim)) (W.heap.size) [.string a.b0, .string a.b1, .int .i64 a.e0, .int .i64 a.e1, .int .i64 a.lim] := (((((xf.other (by omega) 0 (.string a.b0)).other (by omega) 1 (.string a.b1)).other (by omega) 2 (.int .i64 a.e0)).other (by omega) 3 (.int .i64 a.e1)).other (by omega) 4 (.int .i64 a.lim))
        replace xr : Box 25 (((((wr.setCell ⟨W.heap.size + 1, 0, none⟩ (.string a.b0)).setCell ⟨W.heap.size + 1, 1, none⟩ (.string a.b1)).setCell ⟨W.heap.size + 1, 2, none⟩ (.int .i64 a.e0)).setCell ⟨W.heap.size + 1, 3, none⟩ (.int .i64 a.e1)).setCell ⟨W.heap.size + 1, 4, none⟩ (.int .i64 a.lim)) (W.heap.size + 1) [.string a.b0, .string a.b1, .int .i64 a.e0, .int .i64 a.e1, .int .i64 a.lim] := (((((xr.set 0 (.string a.b0)).set 1 (.string a.b1)).set 2 (.int .i64 a.e0)).set 3 (.int .i64 a.e1)).set 4 (.int .i64 a.lim))
        replace hB : Below W.heap.size W (((((wr.setCell ⟨W.heap.size + 1, 0, none⟩ (.string a.b0)).setCell ⟨W.heap.size + 1, 1, none⟩ (.string a.b1)).setCell ⟨W.heap.size + 1, 2, none⟩ (.int .i64 a.e0)).setCell ⟨W.heap.size + 1, 3, none⟩ (.int .i64 a.e1)).setCell ⟨W.heap.size + 1, 4, none⟩ (.int .i64 a.lim)) := (((((hB.setCell le_xr _).setCell le_xr _).setCell le_xr _).setCell le_xr _).setCell le_xr _)
        generalize (((((wr.setCell ⟨W.heap.size + 1, 0, none⟩ (.string a.b0)).setCell ⟨W.heap.size + 1, 1, none⟩ (.string a.b1)).setCell ⟨W.heap.size + 1, 2, none⟩ (.int .i64 a.e0)).setCell ⟨W.heap.size + 1, 3, none⟩ (.int .i64 a.e1)).setCell ⟨W.heap.size + 1, 4, none⟩ (.int .i64 a.lim)) = V2 at *
        have cxf := xf.f5
        have cxr := xr.f5
        try simp only [Exit.jump]
        exact bodyPost_ret (v := .tuple #[.agg #[.string a.b0, .string a.b1, .int .i64 a.e0, .int .i64 a.e1, .int .i64 a.lim], .int .i64 (l.length : Int), .int .i64 0]) (by simp [results, Tryz.results14, go_sem, cxr]) rfl ⟨rfl, hB⟩
  · rintro a' w' ⟨u5, u6, u7, u9, u10, u11, u12, u13, u14, u15, u16, u17, u18, u19, u20, u21, u22, u23, u24, u25, u26, u27, u28, u29, u30, u31, u32, u33, u34, u35, u36, u37, u38, u39, u40, u41, u42, u43, u44, u45, u46, u47, u48, u49, u50, u51, k, g, rfl, rfl, hlt, hgk, HP, xf, xr, hB⟩
    obtain ⟨o, hoo⟩ : ∃ o, l[k]? = some o := ⟨_, List.getElem?_eq_getElem hlt⟩
    have HS := HR.out.symm.trans (HP.trans (play_cut hoo))
    simp only [Prod.mk.injEq] at HS
    obtain ⟨h1, h2, h3⟩ := HS
    subst h1 h2 h3
    obtain ⟨gL, off, rfl, HC⟩ := HOP.out n o hoo
    have hok := ho o (List.mem_of_getElem? hoo)
    replace HC := Lib.hid HC
    have j0 : (0 : Int) ≤ (n : Int) := by omega
    have j1 : (n : Int) < (l.length : Int) := by omega
    have TT := Lib.hid (fun (W : World) => own04Tear g o m W hgk hok hm)
    clear hoo HP HR
    dsimp only
    have cxf := xf.f5
    have cxr := xr.f5
    go_wp2_with fail
    clear cxf cxr
    replace hB := hB.drew
    replace xf := xf.drew
    replace xr := xr.drew
    refine wp_region_held_drew (S := fun w' => w'.cell? ⟨gL, off + n * 4, none⟩ = some (.int .i64 o.kind) ∧ w'.cell? ⟨gL, off + n * 4 + 1, none⟩ = some (.int .i64 o.bank) ∧ w'.cell? ⟨gL, off + n * 4 + 2, none⟩ = some (.int .i64 o.q) ∧ w'.cell? ⟨gL, off + n * 4 + 3, none⟩ = some (.string o.d)) (by kernel_rfl) ?_ (fun hHeld => ?_)
    · exact ⟨(HC.out _ hB).1, (HC.out _ hB).2.1, (HC.out _ hB).2.2.1, (HC.out _ hB).2.2.2⟩
    generalize w'.drew = V2 at *
    refine tk 1 (v := ?_) rfl (Or.inl ⟨by rfl, ?_⟩) ?_; rotate_left
    · intro w hSw; (try dsimp only at hSw); go_simp; try with_reducible rfl
    try simp only [Act.put, l1, l2, l3, l4, l5, l6]
    refine tk 2 (v := ?_) rfl (Or.inl ⟨by rfl, ?_⟩) ?_; rotate_left
    · intro w hSw; (try dsimp only at hSw); go_simp; try with_reducible rfl
    try simp only [Act.put, l1, l2, l3, l4, l5, l6]
    refine tk 3 (v := ?_) rfl (Or.inl ⟨by rfl, ?_⟩) ?_; rotate_left
    · intro w hSw; (try dsimp only at hSw); go_simp; try with_reducible rfl
    try simp only [Act.put, l1, l2, l3, l4, l5, l6]
    refine tk 4 (v := ?_) rfl (Or.inl ⟨by rfl, ?_⟩) ?_; rotate_left
    · intro w hSw; (try dsimp only at hSw); go_simp; try with_reducible rfl
    try simp only [Act.put, l1, l2, l3, l4, l5, l6]
    refine tk 5 (v := ?_) rfl (Or.inl ⟨by rfl, ?_⟩) ?_; rotate_left
    · intro w hSw; (try dsimp only at hSw); go_simp; try with_reducible rfl
    try simp only [Act.put, l1, l2, l3, l4, l5, l6]
    refine wpAnyH_ready (rs := [0]) (by kernel_rfl) (by simp) ?_
    refine AllReadyH.cons rfl (fun K hK => ?_) AllReadyH.nil
    have cxf := xf.f5
    have cxr := xr.f5
    go_simp
    try go_wp2_with fail
    clear cxf cxr
    clear hHeld
    refine hK.out _ _ ?_ (fun hHeld => ?_)
    · exact ⟨(HC.out _ hB).1, (HC.out _ hB).2.1, (HC.out _ hB).2.2.1, (HC.out _ hB).2.2.2⟩
    clear hK K
    try simp only [Act.put, l1, l2, l3, l4, l5, l6]
    refine wpAnyH_ready (rs := [6]) (by kernel_rfl) (by simp) ?_
    refine AllReadyH.cons rfl (fun K hK => ?_) AllReadyH.nil
    have cxf := xf.f5
    have cxr := xr.f5
    go_simp
    refine (TT.out _).mono ?_
    rintro e V3 ⟨rfl, hk⟩
    clear cxf cxr
    replace hB := below_seq hB hk
    replace xf := xf.seq hk
    replace xr := xr.seq hk
    clear hk
    have cxf := xf.f5
    have cxr := xr.f5
    try go_wp2_with fail
    clear cxf cxr
    clear hHeld
    refine hK.out _ _ ?_ (fun hHeld => ?_)
    · exact ⟨(HC.out _ hB).1, (HC.out _ hB).2.1, (HC.out _ hB).2.2.1, (HC.out _ hB).2.2.2⟩
    clear hK K
    try simp only [Act.put, l1, l2, l3, l4, l5, l6]
    refine tk 7 (v := ?_) rfl (Or.inl ⟨by rfl, ?_⟩) ?_; rotate_left
    · intro w hSw; (try dsimp only at hSw); go_simp; try with_reducible rfl
    try simp only [Act.put, l1, l2, l3, l4, l5, l6]
    refine tk 8 (v := ?_) rfl (Or.inl ⟨by rfl, ?_⟩) ?_; rotate_left
    · intro w hSw; (try dsimp only at hSw); go_simp; try with_reducible rfl
    try simp only [Act.put, l1, l2, l3, l4, l5, l6]
    refine tk 9 (v := ?_) rfl (Or.inl ⟨by rfl, ?_⟩) ?_; rotate_left
    · intro w hSw; (try dsimp only at hSw); go_simp; try with_reducible rfl
    try simp only [Act.put, l1, l2, l3, l4, l5, l6]
    refine wpAnyH_ready (rs := [10]) (by kernel_rfl) (by simp) ?_
    refine AllReadyH.cons rfl (fun K hK => ?_) AllReadyH.nil
    have cxf := xf.f5
    have cxr := xr.f5
    go_simp
    try go_wp2_with fail
    clear cxf cxr
    replace xr : Box 25 (((((V3.setCell ⟨W.heap.size, 0, none⟩ (.string (tearF g o m).b0)).setCell ⟨W.heap.size, 1, none⟩ (.string (tearF g o m).b1)).setCell ⟨W.heap.size, 2, none⟩ (.int .i64 (tearF g o m).e0)).setCell ⟨W.heap.size, 3, none⟩ (.int .i64 (tearF g o m).e1)).setCell ⟨W.heap.size, 4, none⟩ (.int .i64 (tearF g o m).lim)) (W.heap.size + 1) [.string ⟨#[]⟩, .string ⟨#[]⟩, .int .i64 0, .int .i64 0, .int .i64 0] := (((((xr.other (by omega) 0 (.string (tearF g o m).b0)).other (by omega) 1 (.string (tearF g o m).b1)).other (by omega) 2 (.int .i64 (tearF g o m).e0)).other (by omega) 3 (.int .i64 (tearF g o m).e1)).other (by omega) 4 (.int .i64 (tearF g o m).lim))
    replace xf : Box 25 (((((V3.setCell ⟨W.heap.size, 0, none⟩ (.string (tearF g o m).b0)).setCell ⟨W.heap.size, 1, none⟩ (.string (tearF g o m).b1)).setCell ⟨W.heap.size, 2, none⟩ (.int .i64 (tearF g o m).e0)).setCell ⟨W.heap.size, 3, none⟩ (.int .i64 (tearF g o m).e1)).setCell ⟨W.heap.size, 4, none⟩ (.int .i64 (tearF g o m).lim)) (W.heap.size) [.string (tearF g o m).b0, .string (tearF g o m).b1, .int .i64 (tearF g o m).e0, .int .i64 (tearF g o m).e1, .int .i64 (tearF g o m).lim] := (((((xf.set 0 (.string (tearF g o m).b0)).set 1 (.string (tearF g o m).b1)).set 2 (.int .i64 (tearF g o m).e0)).set 3 (.int .i64 (tearF g o m).e1)).set 4 (.int .i64 (tearF g o m).lim))
    replace hB : Below W.heap.size W (((((V3.setCell ⟨W.heap.size, 0, none⟩ (.string (tearF g o m).b0)).setCell ⟨W.heap.size, 1, none⟩ (.string (tearF g o m).b1)).setCell ⟨W.heap.size, 2, none⟩ (.int .i64 (tearF g o m).e0)).setCell ⟨W.heap.size, 3, none⟩ (.int .i64 (tearF g o m).e1)).setCell ⟨W.heap.size, 4, none⟩ (.int .i64 (tearF g o m).lim)) := (((((hB.setCell (Nat.le_refl _) _).setCell (Nat.le_refl _) _).setCell (Nat.le_refl _) _).setCell (Nat.le_refl _) _).setCell (Nat.le_refl _) _)
    generalize (((((V3.setCell ⟨W.heap.size, 0, none⟩ (.string (tearF g o m).b0)).setCell ⟨W.heap.size, 1, none⟩ (.string (tearF g o m).b1)).setCell ⟨W.heap.size, 2, none⟩ (.int .i64 (tearF g o m).e0)).setCell ⟨W.heap.size, 3, none⟩ (.int .i64 (tearF g o m).e1)).setCell ⟨W.heap.size, 4, none⟩ (.int .i64 (tearF g o m).lim)) = V4 at *
    clear hHeld
    refine hK.out _ _ ?_ (fun hHeld => ?_)
    · exact ⟨(HC.out _ hB).1, (HC.out _ hB).2.1, (HC.out _ hB).2.2.1, (HC.out _ hB).2.2.2⟩
    clear hK K
    try simp only [Act.put, l1, l2, l3, l4, l5, l6]
    refine tk 11 (v := ?_) rfl (Or.inl ⟨by rfl, ?_⟩) ?_; rotate_left
    · intro w hSw; (try dsimp only at hSw); go_simp; try with_reducible rfl
    try simp only [Act.put, l1, l2, l3, l4, l5, l6]
    refine wpAnyH_done (by kernel_rfl) ?_ _
    clear hHeld
    have cxf := xf.f5
    have cxr := xr.f5
    go_wp2
    clear cxf cxr
    replace xf : Box 25 (((((V4.setCell ⟨W.heap.size + 1, 0, none⟩ (.string (tearF g o m).b0)).setCell ⟨W.heap.size + 1, 1, none⟩ (.string (tearF g o m).b1)).setCell ⟨W.heap.size + 1, 2, none⟩ (.int .i64 (tearF g o m).e0)).setCell ⟨W.heap.size + 1, 3, none⟩ (.int .i64 (tearF g o m).e1)).setCell ⟨W.heap.size + 1, 4, none⟩ (.int .i64 (tearF g o m).lim)) (W.heap.size) [.string (tearF g o m).b0, .string (tearF g o m).b1, .int .i64 (tearF g o m).e0, .int .i64 (tearF g o m).e1, .int .i64 (tearF g o m).lim] := (((((xf.other (by omega) 0 (.string (tearF g o m).b0)).other (by omega) 1 (.string (tearF g o m).b1)).other (by omega) 2 (.int .i64 (tearF g o m).e0)).other (by omega) 3 (.int .i64 (tearF g o m).e1)).other (by omega) 4 (.int .i64 (tearF g o m).lim))
    replace xr : Box 25 (((((V4.setCell ⟨W.heap.size + 1, 0, none⟩ (.string (tearF g o m).b0)).setCell ⟨W.heap.size + 1, 1, none⟩ (.string (tearF g o m).b1)).setCell ⟨W.heap.size + 1, 2, none⟩ (.int .i64 (tearF g o m).e0)).setCell ⟨W.heap.size + 1, 3, none⟩ (.int .i64 (tearF g o m).e1)).setCell ⟨W.heap.size + 1, 4, none⟩ (.int .i64 (tearF g o m).lim)) (W.heap.size + 1) [.string (tearF g o m).b0, .string (tearF g o m).b1, .int .i64 (tearF g o m).e0, .int .i64 (tearF g o m).e1, .int .i64 (tearF g o m).lim] := (((((xr.set 0 (.string (tearF g o m).b0)).set 1 (.string (tearF g o m).b1)).set 2 (.int .i64 (tearF g o m).e0)).set 3 (.int .i64 (tearF g o m).e1)).set 4 (.int .i64 (tearF g o m).lim))
    replace hB : Below W.heap.size W (((((V4.setCell ⟨W.heap.size + 1, 0, none⟩ (.string (tearF g o m).b0)).setCell ⟨W.heap.size + 1, 1, none⟩ (.string (tearF g o m).b1)).setCell ⟨W.heap.size + 1, 2, none⟩ (.int .i64 (tearF g o m).e0)).setCell ⟨W.heap.size + 1, 3, none⟩ (.int .i64 (tearF g o m).e1)).setCell ⟨W.heap.size + 1, 4, none⟩ (.int .i64 (tearF g o m).lim)) := (((((hB.setCell le_xr _).setCell le_xr _).setCell le_xr _).setCell le_xr _).setCell le_xr _)
    generalize (((((V4.setCell ⟨W.heap.size + 1, 0, none⟩ (.string (tearF g o m).b0)).setCell ⟨W.heap.size + 1, 1, none⟩ (.string (tearF g o m).b1)).setCell ⟨W.heap.size + 1, 2, none⟩ (.int .i64 (tearF g o m).e0)).setCell ⟨W.heap.size + 1, 3, none⟩ (.int .i64 (tearF g o m).e1)).setCell ⟨W.heap.size + 1, 4, none⟩ (.int .i64 (tearF g o m).lim)) = V5 at *
    have cxf := xf.f5
    have cxr := xr.f5
    try simp only [Exit.jump]
    exact bodyPost_ret (v := .tuple #[.agg #[.string (tearF g o m).b0, .string (tearF g o m).b1, .int .i64 (tearF g o m).e0, .int .i64 (tearF g o m).e1, .int .i64 (tearF g o m).lim], .int .i64 (n : Int), .int .i64 (doErr g o)]) (by simp [results, Tryz.results14, go_sem, cxr]) rfl ⟨rfl, hB⟩

end Go.Proofs.YtiacdcnpkfpjaaaGreat

/- What stands behind the cut is as if it was not there; with no cut all is done, op by op, till one goes wrong (PowerEnds); no condition. -/
import Derived.Test.YtoemjfjmpmngeabFlashEq
import Derived.Test.YtoemjfjmpmngeabPowerLaw
import Derived.Test.YtoemjfjmpmngeabPowerOpen
import Derived.Lib.Hide
import Derived.Deep.RegionHeld3
import Derived.IntWalk
import Derived.ProofKit
import Derived.OpenShut
import Derived.ChangeMaps5
import Derived.Test.YtoemjfjmpmngeabInts
namespace Go.Proofs.Ytoemjfjmpmngeab.PowerEnds
open Go.ChangeShapes Go.WideShapes Go.ChangeAt Go.RowKit Go.ChangeMaps
set_option linter.unusedVariables false
attribute [local go_sem] eqS2 eqI2 eqS2t eqI2t
set_option linter.unusedSimpArgs false

set_option maxRecDepth 100000 in
set_option maxHeartbeats 8000000 in
theorem walk (f : Fl) (l : List PwOp) (lA : Option Addr) (lc : Nat) (cut : Int) (m : ByteArray) (W : World) (hf : f.ok) (hl : OpsAt W lA l) (hlo : ∀ o ∈ l, o.ok) (hl1 : l.length ≤ lc) (hl2 : lc ≤ maxLen) (hcut : -9223372036854775808 ≤ cut ∧ cut ≤ 9223372036854775807) (hm : m.size ≤ maxLen) :
    Calls Try.prog 10 #[.agg #[.string f.b0, .string f.b1, .int .i64 f.e0, .int .i64 f.e1, .int .i64 f.lim], .slice lA l.length lc, .int .i64 cut, .string m] W fun e W' => e = .returned (.bool true) ∧ Below W.heap.size W W' := by
  have hm0 := hm
  unfold maxLen at hm0
  by_cases hg : bigB4 f l m = true
  · have TB := Lib.hid (fun (V : World) (h : OpsAt V lA l) => (show Calls Try.prog 25 #[.agg #[.string f.b0, .string f.b1, .int .i64 f.e0, .int .i64 f.e1, .int .i64 f.lim], .slice lA l.length lc, .string m] V fun e W' => e = .returned (.bool true) ∧ Below V.heap.size V W' from by have k := big04 f l lA lc m V hf hlo h hm ⟨hl1, hl2⟩; rwa [hg] at k))
    clear hg
    have hB : Below W.heap.size W (W.alloc (.cells #[.string f.b0, .string f.b1, .int .i64 f.e0, .int .i64 f.e1, .int .i64 f.lim] 25)) := (Below.refl _ _).alloc (Nat.le_refl _) _
    have xf := Box.new 25 W [.string f.b0, .string f.b1, .int .i64 f.e0, .int .i64 f.e1, .int .i64 f.lim]
    go_enter Try.func10, Try.ntmps10
    go_wp2_with fail
    refine (TB.out _ (hl.seq hB)).mono ?_
    rintro e W1 ⟨rfl, k1⟩
    replace hB := below_seq hB k1
    replace xf := xf.seq k1
    clear k1
    have xf0 := xf.cell 0 rfl
    have xf1 := xf.cell 1 rfl
    have xf2 := xf.cell 2 rfl
    have xf3 := xf.cell 3 rfl
    have xf4 := xf.cell 4 rfl
    go_wp2_with fail
    refine (shown04 _).mono ?_
    rintro e W2 ⟨rfl, k2⟩
    replace hB := below_seq hB k2
    replace xf := xf.seq k2
    clear k2
    clear xf0 xf1 xf2 xf3 xf4
    have xf0 := xf.cell 0 rfl
    have xf1 := xf.cell 1 rfl
    have xf2 := xf.cell 2 rfl
    have xf3 := xf.cell 3 rfl
    have xf4 := xf.cell 4 rfl
    go_wp2
    go_ret
    exact ⟨rfl, hB⟩
  · replace hg : bigB4 f l m = false := by simpa using hg
    have TB := Lib.hid (fun (V : World) (h : OpsAt V lA l) => (show Calls Try.prog 25 #[.agg #[.string f.b0, .string f.b1, .int .i64 f.e0, .int .i64 f.e1, .int .i64 f.lim], .slice lA l.length lc, .string m] V fun e W' => e = .returned (.bool false) ∧ Below V.heap.size V W' from by have k := big04 f l lA lc m V hf hlo h hm ⟨hl1, hl2⟩; rwa [hg] at k))
    have h20 : l.length ≤ 20 := by unfold bigB4 at hg; simp at hg; omega
    have hfit : f.fit := ⟨hf, by unfold bigB4 at hg; simp at hg; omega, by unfold bigB4 at hg; simp at hg; omega⟩
    clear hg
    have hlc : (l.length : Int) ≤ 20 := by omega
    obtain ⟨a, n, e, HR⟩ : ∃ a n e, playR f l cut m = (a, n, e) := ⟨_, _, _, rfl⟩
    have T1 := Lib.hid (fun (V : World) (h : OpsAt V lA l) => (show Calls Try.prog 30 #[.agg #[.string f.b0, .string f.b1, .int .i64 f.e0, .int .i64 f.e1, .int .i64 f.lim], .slice lA l.length lc, .int .i64 cut, .string m] V fun e' W' => e' = .returned (.tuple #[.agg #[.string a.b0, .string a.b1, .int .i64 a.e0, .int .i64 a.e1, .int .i64 a.lim], .int .i64 (n : Int), .int .i64 e]) ∧ Below V.heap.size V W' from by have k := own04Play f l lA lc cut m V hfit hlo h hm ⟨hl1, hl2⟩; rwa [HR] at k))
    by_cases hc0 : 0 ≤ cut ∧ cut < (l.length : Int)
    · obtain ⟨hc1, hc2⟩ := hc0
      obtain ⟨c, rfl⟩ := Int.eq_ofNat_of_zero_le hc1
      have hle : (n : Int) ≤ (c : Int) := by have h := play_le c m l f (by omega); rw [HR] at h; exact_mod_cast h
      have hlt : (l.take (c + 1)).length = c + 1 := by rw [List.length_take]; omega
      have T2 := Lib.hid (fun (V : World) (h : OpsAt V lA l) => (show Calls Try.prog 30 #[.agg #[.string f.b0, .string f.b1, .int .i64 f.e0, .int .i64 f.e1, .int .i64 f.lim], .slice lA (c + 1) lc, .int .i64 (c : Int), .string m] V fun e' W' => e' = .returned (.tuple #[.agg #[.string a.b0, .string a.b1, .int .i64 a.e0, .int .i64 a.e1, .int .i64 a.lim], .int .i64 (n : Int), .int .i64 e]) ∧ Below V.heap.size V W' from by have k := own04Play f (l.take (c + 1)) lA lc (c : Int) m V hfit (fun o ho => hlo o (List.mem_of_mem_take ho)) (h.take _) hm ⟨by omega, hl2⟩; rwa [play_take, HR, hlt] at k))
      replace HR := Lib.hid HR
      clear hlt
      have g1 : IntKind.i64.wrap ((c : Int) + 1) = (c : Int) + 1 := IntWalk.i64_in _ (by omega)
      have g2 : (0 : Int) ≤ (c : Int) + 1 := by omega
      have g3 : ((c : Int) + 1).toNat = c + 1 := by omega
      have g4 : (c : Int) + 1 ≤ (lc : Int) := by omega
      have g5 : c + 1 ≤ lc := by omega
      have hB : Below W.heap.size W (W.alloc (.cells #[.string f.b0, .string f.b1, .int .i64 f.e0, .int .i64 f.e1, .int .i64 f.lim] 25)) := (Below.refl _ _).alloc (Nat.le_refl _) _
      have xf := Box.new 25 W [.string f.b0, .string f.b1, .int .i64 f.e0, .int .i64 f.e1, .int .i64 f.lim]
      go_enter Try.func10, Try.ntmps10
      go_wp2_with fail
      refine (TB.out _ (hl.seq hB)).mono ?_
      rintro e W1 ⟨rfl, k1⟩
      replace hB := below_seq hB k1
      replace xf := xf.seq k1
      clear k1
      have xf0 := xf.cell 0 rfl
      have xf1 := xf.cell 1 rfl
      have xf2 := xf.cell 2 rfl
      have xf3 := xf.cell 3 rfl
      have xf4 := xf.cell 4 rfl
      go_wp2_with fail
      refine (shown04 _).mono ?_
      rintro e W2 ⟨rfl, k2⟩
      replace hB := below_seq hB k2
      replace xf := xf.seq k2
      clear k2
      clear xf0 xf1 xf2 xf3 xf4
      have xf0 := xf.cell 0 rfl
      have xf1 := xf.cell 1 rfl
      have xf2 := xf.cell 2 rfl
      have xf3 := xf.cell 3 rfl
      have xf4 := xf.cell 4 rfl
      go_wp2_with fail
      refine (T1.out _ (hl.seq hB)).mono ?_
      rintro e W3 ⟨rfl, k3⟩
      replace hB := below_seq hB k3
      replace xf := xf.seq k3
      clear k3
      clear xf0 xf1 xf2 xf3 xf4
      have xf0 := xf.cell 0 rfl
      have xf1 := xf.cell 1 rfl
      have xf2 := xf.cell 2 rfl
      have xf3 := xf.cell 3 rfl
      have xf4 := xf.cell 4 rfl
      have xa := Box.new 25 W3 [.string a.b0, .string a.b1, .int .i64 a.e0, .int .i64 a.e1, .int .i64 a.lim]
      replace xf := xf.alloc (.cells #[.string a.b0, .string a.b1, .int .i64 a.e0, .int .i64 a.e1, .int .i64 a.lim] 25)
      replace hB := hB.alloc hB.size (.cells #[.string a.b0, .string a.b1, .int .i64 a.e0, .int .i64 a.e1, .int .i64 a.lim] 25)
      clear xf0 xf1 xf2 xf3 xf4
      have xf0 := xf.cell 0 rfl
      have xf1 := xf.cell 1 rfl
      have xf2 := xf.cell 2 rfl
      have xf3 := xf.cell 3 rfl
      have xf4 := xf.cell 4 rfl
      have xa0 := xa.cell 0 rfl
      have xa1 := xa.cell 1 rfl
      have xa2 := xa.cell 2 rfl
      have xa3 := xa.cell 3 rfl
      have xa4 := xa.cell 4 rfl
      go_wp2_with fail
      generalize W3.alloc (.cells #[.string a.b0, .string a.b1, .int .i64 a.e0, .int .i64 a.e1, .int .i64 a.lim] 25) = V at *
      clear xf0 xa0 xf1 xa1 xf2 xa2 xf3 xa3 xf4 xa4
      replace hB := hB.drew
      replace xf := xf.drew
      replace xa := xa.drew
      refine wp_region_held_drew (S := fun w' => w'.cell? ⟨W.heap.size, 0, none⟩ = some (.string f.b0) ∧ w'.cell? ⟨W.heap.size, 1, none⟩ = some (.string f.b1) ∧ w'.cell? ⟨W.heap.size, 2, none⟩ = some (.int .i64 f.e0) ∧ w'.cell? ⟨W.heap.size, 3, none⟩ = some (.int .i64 f.e1) ∧ w'.cell? ⟨W.heap.size, 4, none⟩ = some (.int .i64 f.lim)) (by kernel_rfl) ?_ (fun hHeld => ?_)
      · exact ⟨xf.cell 0 rfl, xf.cell 1 rfl, xf.cell 2 rfl, xf.cell 3 rfl, xf.cell 4 rfl⟩
      generalize V.drew = Vd at *
      refine wpAnyH_take (i := 0) (v := ?_) rfl (by kernel_rfl) (by kernel_rfl) (by kernel_rfl) (fun _ _ _ h => h) (Or.inl ⟨by rfl, ?_⟩) (by assumption) ?_
      rotate_left
      · intro w hSw; (try dsimp only at hSw); go_simp; try with_reducible rfl
      try simp only [Act.put, List.getElem_toArray, List.getElem_cons_zero, List.getElem_cons_succ, List.setIfInBounds_toArray, List.set_cons_zero, List.set_cons_succ]
      refine wpAnyH_take (i := 1) (v := ?_) rfl (by kernel_rfl) (by kernel_rfl) (by kernel_rfl) (fun _ _ _ h => h) (Or.inl ⟨by rfl, ?_⟩) (by assumption) ?_
      rotate_left
      · intro w hSw; (try dsimp only at hSw); go_simp; try with_reducible rfl
      try simp only [Act.put, List.getElem_toArray, List.getElem_cons_zero, List.getElem_cons_succ, List.setIfInBounds_toArray, List.set_cons_zero, List.set_cons_succ]
      refine wpAnyH_take (i := 2) (v := ?_) rfl (by kernel_rfl) (by kernel_rfl) (by kernel_rfl) (fun _ _ _ h => h) (Or.inl ⟨by rfl, ?_⟩) (by assumption) ?_
      rotate_left
      · intro w hSw; (try dsimp only at hSw); go_simp; try with_reducible rfl
      try simp only [Act.put, List.getElem_toArray, List.getElem_cons_zero, List.getElem_cons_succ, List.setIfInBounds_toArray, List.set_cons_zero, List.set_cons_succ]
      refine wpAnyH_take (i := 3) (v := ?_) rfl (by kernel_rfl) (by kernel_rfl) (by kernel_rfl) (fun _ _ _ h => h) (Or.inl ⟨by rfl, ?_⟩) (by assumption) ?_
      rotate_left
      · intro w hSw; (try dsimp only at hSw); go_simp; try with_reducible rfl
      try simp only [Act.put, List.getElem_toArray, List.getElem_cons_zero, List.getElem_cons_succ, List.setIfInBounds_toArray, List.set_cons_zero, List.set_cons_succ]
      refine wpAnyH_take (i := 4) (v := ?_) rfl (by kernel_rfl) (by kernel_rfl) (by kernel_rfl) (fun _ _ _ h => h) (Or.inl ⟨by rfl, ?_⟩) (by assumption) ?_
      rotate_left
      · intro w hSw; (try dsimp only at hSw); go_simp; try with_reducible rfl
      try simp only [Act.put, List.getElem_toArray, List.getElem_cons_zero, List.getElem_cons_succ, List.setIfInBounds_toArray, List.set_cons_zero, List.set_cons_succ]
      refine wpAnyH_take (i := 5) (v := ?_) rfl (by kernel_rfl) (by kernel_rfl) (by kernel_rfl) (fun _ _ _ h => h) (Or.inl ⟨by rfl, ?_⟩) (by assumption) ?_
      rotate_left
      · intro w hSw; (try dsimp only at hSw); go_simp; try with_reducible rfl
      try simp only [Act.put, List.getElem_toArray, List.getElem_cons_zero, List.getElem_cons_succ, List.setIfInBounds_toArray, List.set_cons_zero, List.set_cons_succ]
      refine wpAnyH_take (i := 6) (v := ?_) rfl (by kernel_rfl) (by kernel_rfl) (by kernel_rfl) (fun _ _ _ h => h) (Or.inl ⟨by rfl, ?_⟩) (by assumption) ?_
      rotate_left
      · intro w hSw; (try dsimp only at hSw); go_simp; try with_reducible rfl
      try simp only [Act.put, List.getElem_toArray, List.getElem_cons_zero, List.getElem_cons_succ, List.setIfInBounds_toArray, List.set_cons_zero, List.set_cons_succ]
      refine wpAnyH_ready (rs := [7, 12]) (by kernel_rfl) (by simp) ?_
      refine AllReadyH.cons rfl (fun K hK => ?_) (AllReadyH.cons rfl (fun K hK => ?_) AllReadyH.nil)
      · go_simp
        refine (T2.out _ (hl.seq hB)).mono ?_
        rintro e Vc ⟨rfl, hh⟩
        replace hB := below_seq hB hh
        replace xf := xf.seq hh
        replace xa := xa.seq hh
        clear hHeld
        refine hK.out _ _ ?_ (fun hHeld => ?_)
        · exact ⟨xf.cell 0 rfl, xf.cell 1 rfl, xf.cell 2 rfl, xf.cell 3 rfl, xf.cell 4 rfl⟩
        clear hK K
        try simp only [Act.put, List.getElem_toArray, List.getElem_cons_zero, List.getElem_cons_succ, List.setIfInBounds_toArray, List.set_cons_zero, List.set_cons_succ]
        refine wpAnyH_take (i := 8) (v := ?_) rfl (by kernel_rfl) (by kernel_rfl) (by kernel_rfl) (fun _ _ _ h => h) (Or.inl ⟨by rfl, ?_⟩) (by assumption) ?_
        rotate_left
        · intro w hSw; (try dsimp only at hSw); go_simp; try with_reducible rfl
        try simp only [Act.put, List.getElem_toArray, List.getElem_cons_zero, List.getElem_cons_succ, List.setIfInBounds_toArray, List.set_cons_zero, List.set_cons_succ]
        refine wpAnyH_take (i := 9) (v := ?_) rfl (by kernel_rfl) (by kernel_rfl) (by kernel_rfl) (fun _ _ _ h => h) (Or.inl ⟨by rfl, ?_⟩) (by assumption) ?_
        rotate_left
        · intro w hSw; (try dsimp only at hSw); go_simp; try with_reducible rfl
        try simp only [Act.put, List.getElem_toArray, List.getElem_cons_zero, List.getElem_cons_succ, List.setIfInBounds_toArray, List.set_cons_zero, List.set_cons_succ]
        refine wpAnyH_take (i := 10) (v := ?_) rfl (by kernel_rfl) (by kernel_rfl) (by kernel_rfl) (fun _ _ _ h => h) (Or.inl ⟨by rfl, ?_⟩) (by assumption) ?_
        rotate_left
        · intro w hSw; (try dsimp only at hSw); go_simp; try with_reducible rfl
        try simp only [Act.put, List.getElem_toArray, List.getElem_cons_zero, List.getElem_cons_succ, List.setIfInBounds_toArray, List.set_cons_zero, List.set_cons_succ]
        refine wpAnyH_take (i := 11) (v := ?_) rfl (by kernel_rfl) (by kernel_rfl) (by kernel_rfl) (fun _ _ _ h => h) (Or.inl ⟨by rfl, ?_⟩) (by assumption) ?_
        rotate_left
        · intro w hSw; (try dsimp only at hSw); go_simp; try with_reducible rfl
        try simp only [Act.put, List.getElem_toArray, List.getElem_cons_zero, List.getElem_cons_succ, List.setIfInBounds_toArray, List.set_cons_zero, List.set_cons_succ]
        refine wpAnyH_ready (rs := [12]) (by kernel_rfl) (by simp) ?_
        refine AllReadyH.cons rfl (fun K hK => ?_) AllReadyH.nil
        go_simp
        have xb := Box.new 25 Vc [.string ⟨#[]⟩, .string ⟨#[]⟩, .int .i64 0, .int .i64 0, .int .i64 0]
        have hgz : W.heap.size ≤ Vc.heap.size := hB.size
        have nxf : Vc.heap.size ≠ W.heap.size := by have := xf.lt; omega
        replace xf := xf.alloc (.cells #[.string ⟨#[]⟩, .string ⟨#[]⟩, .int .i64 0, .int .i64 0, .int .i64 0] 25)
        have nxa : Vc.heap.size ≠ W3.heap.size := by have := xa.lt; omega
        replace xa := xa.alloc (.cells #[.string ⟨#[]⟩, .string ⟨#[]⟩, .int .i64 0, .int .i64 0, .int .i64 0] 25)
        replace hB := hB.alloc hB.size (.cells #[.string ⟨#[]⟩, .string ⟨#[]⟩, .int .i64 0, .int .i64 0, .int .i64 0] 25)
        generalize Vc.alloc (.cells #[.string ⟨#[]⟩, .string ⟨#[]⟩, .int .i64 0, .int .i64 0, .int .i64 0] 25) = Vz at *
        clear hHeld
        refine hK.out _ _ ?_ (fun hHeld => ?_)
        · exact ⟨xf.cell 0 rfl, xf.cell 1 rfl, xf.cell 2 rfl, xf.cell 3 rfl, xf.cell 4 rfl⟩
        clear hK K
        try simp only [Act.put, List.getElem_toArray, List.getElem_cons_zero, List.getElem_cons_succ, List.setIfInBounds_toArray, List.set_cons_zero, List.set_cons_succ]
        generalize Vc.heap.size = gz at *
        refine wpAnyH_ready (rs := [13]) (by kernel_rfl) (by simp) ?_
        refine AllReadyH.cons rfl (fun K hK => ?_) AllReadyH.nil
        have z0 := xb.cell 0 rfl
        have y0 := xb.frozen 0
        have z1 := xb.cell 1 rfl
        have y1 := xb.frozen 1
        have z2 := xb.cell 2 rfl
        have y2 := xb.frozen 2
        have z3 := xb.cell 3 rfl
        have y3 := xb.frozen 3
        have z4 := xb.cell 4 rfl
        have y4 := xb.frozen 4
        go_simp
        clear z0 y0 z1 y1 z2 y2 z3 y3 z4 y4
        replace xf := (((((xf.other nxf 0 (.string a.b0)).other nxf 1 (.string a.b1)).other nxf 2 (.int .i64 a.e0)).other nxf 3 (.int .i64 a.e1)).other nxf 4 (.int .i64 a.lim))
        replace xa := (((((xa.other nxa 0 (.string a.b0)).other nxa 1 (.string a.b1)).other nxa 2 (.int .i64 a.e0)).other nxa 3 (.int .i64 a.e1)).other nxa 4 (.int .i64 a.lim))
        replace xb : Box 25 (((((Vz.setCell ⟨gz, 0, none⟩ (.string a.b0)).setCell ⟨gz, 1, none⟩ (.string a.b1)).setCell ⟨gz, 2, none⟩ (.int .i64 a.e0)).setCell ⟨gz, 3, none⟩ (.int .i64 a.e1)).setCell ⟨gz, 4, none⟩ (.int .i64 a.lim)) gz [.string a.b0, .string a.b1, .int .i64 a.e0, .int .i64 a.e1, .int .i64 a.lim] := (((((xb.set 0 (.string a.b0)).set 1 (.string a.b1)).set 2 (.int .i64 a.e0)).set 3 (.int .i64 a.e1)).set 4 (.int .i64 a.lim))
        replace hB : Below W.heap.size W (((((Vz.setCell ⟨gz, 0, none⟩ (.string a.b0)).setCell ⟨gz, 1, none⟩ (.string a.b1)).setCell ⟨gz, 2, none⟩ (.int .i64 a.e0)).setCell ⟨gz, 3, none⟩ (.int .i64 a.e1)).setCell ⟨gz, 4, none⟩ (.int .i64 a.lim)) := (((((hB.setCell hgz _).setCell hgz _).setCell hgz _).setCell hgz _).setCell hgz _)
        generalize (((((Vz.setCell ⟨gz, 0, none⟩ (.string a.b0)).setCell ⟨gz, 1, none⟩ (.string a.b1)).setCell ⟨gz, 2, none⟩ (.int .i64 a.e0)).setCell ⟨gz, 3, none⟩ (.int .i64 a.e1)).setCell ⟨gz, 4, none⟩ (.int .i64 a.lim)) = Vn at *
        clear hHeld
        refine hK.out _ _ ?_ (fun hHeld => ?_)
        · exact ⟨xf.cell 0 rfl, xf.cell 1 rfl, xf.cell 2 rfl, xf.cell 3 rfl, xf.cell 4 rfl⟩
        clear hK K
        try simp only [Act.put, List.getElem_toArray, List.getElem_cons_zero, List.getElem_cons_succ, List.setIfInBounds_toArray, List.set_cons_zero, List.set_cons_succ]
        refine wpAnyH_take (i := 14) (v := ?_) rfl (by kernel_rfl) (by kernel_rfl) (by kernel_rfl) (fun _ _ _ h => h) (Or.inl ⟨by rfl, ?_⟩) (by assumption) ?_
        rotate_left
        · intro w hSw; (try dsimp only at hSw); go_simp; try with_reducible rfl
        try simp only [Act.put, List.getElem_toArray, List.getElem_cons_zero, List.getElem_cons_succ, List.setIfInBounds_toArray, List.set_cons_zero, List.set_cons_succ]
        refine wpAnyH_take (i := 15) (v := ?_) rfl (by kernel_rfl) (by kernel_rfl) (by kernel_rfl) (fun _ _ _ h => h) (Or.inl ⟨by rfl, ?_⟩) (by assumption) ?_
        rotate_left
        · intro w hSw; (try dsimp only at hSw); go_simp; try with_reducible rfl
        try simp only [Act.put, List.getElem_toArray, List.getElem_cons_zero, List.getElem_cons_succ, List.setIfInBounds_toArray, List.set_cons_zero, List.set_cons_succ]
        refine wpAnyH_done (by kernel_rfl) ?_ _
        have xf0 := xf.cell 0 rfl
        have xf1 := xf.cell 1 rfl
        have xf2 := xf.cell 2 rfl
        have xf3 := xf.cell 3 rfl
        have xf4 := xf.cell 4 rfl
        have xa0 := xa.cell 0 rfl
        have xa1 := xa.cell 1 rfl
        have xa2 := xa.cell 2 rfl
        have xa3 := xa.cell 3 rfl
        have xa4 := xa.cell 4 rfl
        have xb0 := xb.cell 0 rfl
        have xb1 := xb.cell 1 rfl
        have xb2 := xb.cell 2 rfl
        have xb3 := xb.cell 3 rfl
        have xb4 := xb.cell 4 rfl
        go_wp2
        go_ret
        exact ⟨rfl, hB⟩
      · go_simp
        have xb := Box.new 25 Vd [.string ⟨#[]⟩, .string ⟨#[]⟩, .int .i64 0, .int .i64 0, .int .i64 0]
        have hgz : W.heap.size ≤ Vd.heap.size := hB.size
        have nxf : Vd.heap.size ≠ W.heap.size := by have := xf.lt; omega
        replace xf := xf.alloc (.cells #[.string ⟨#[]⟩, .string ⟨#[]⟩, .int .i64 0, .int .i64 0, .int .i64 0] 25)
        have nxa : Vd.heap.size ≠ W3.heap.size := by have := xa.lt; omega
        replace xa := xa.alloc (.cells #[.string ⟨#[]⟩, .string ⟨#[]⟩, .int .i64 0, .int .i64 0, .int .i64 0] 25)
        replace hB := hB.alloc hB.size (.cells #[.string ⟨#[]⟩, .string ⟨#[]⟩, .int .i64 0, .int .i64 0, .int .i64 0] 25)
        generalize Vd.alloc (.cells #[.string ⟨#[]⟩, .string ⟨#[]⟩, .int .i64 0, .int .i64 0, .int .i64 0] 25) = Va at *
        clear hHeld
        refine hK.out _ _ ?_ (fun hHeld => ?_)
        · exact ⟨xf.cell 0 rfl, xf.cell 1 rfl, xf.cell 2 rfl, xf.cell 3 rfl, xf.cell 4 rfl⟩
        clear hK K
        try simp only [Act.put, List.getElem_toArray, List.getElem_cons_zero, List.getElem_cons_succ, List.setIfInBounds_toArray, List.set_cons_zero, List.set_cons_succ]
        refine wpAnyH_ready (rs := [7]) (by kernel_rfl) (by simp) ?_
        refine AllReadyH.cons rfl (fun K hK => ?_) AllReadyH.nil
        go_simp
        refine (T2.out _ (hl.seq hB)).mono ?_
        rintro e Vz ⟨rfl, hh⟩
        replace hB := below_seq hB hh
        replace xf := xf.seq hh
        replace xa := xa.seq hh
        replace xb := xb.seq hh
        clear hHeld
        refine hK.out _ _ ?_ (fun hHeld => ?_)
        · exact ⟨xf.cell 0 rfl, xf.cell 1 rfl, xf.cell 2 rfl, xf.cell 3 rfl, xf.cell 4 rfl⟩
        clear hK K
        try simp only [Act.put, List.getElem_toArray, List.getElem_cons_zero, List.getElem_cons_succ, List.setIfInBounds_toArray, List.set_cons_zero, List.set_cons_succ]
        refine wpAnyH_take (i := 8) (v := ?_) rfl (by kernel_rfl) (by kernel_rfl) (by kernel_rfl) (fun _ _ _ h => h) (Or.inl ⟨by rfl, ?_⟩) (by assumption) ?_
        rotate_left
        · intro w hSw; (try dsimp only at hSw); go_simp; try with_reducible rfl
        try simp only [Act.put, List.getElem_toArray, List.getElem_cons_zero, List.getElem_cons_succ, List.setIfInBounds_toArray, List.set_cons_zero, List.set_cons_succ]
        refine wpAnyH_take (i := 9) (v := ?_) rfl (by kernel_rfl) (by kernel_rfl) (by kernel_rfl) (fun _ _ _ h => h) (Or.inl ⟨by rfl, ?_⟩) (by assumption) ?_
        rotate_left
        · intro w hSw; (try dsimp only at hSw); go_simp; try with_reducible rfl
        try simp only [Act.put, List.getElem_toArray, List.getElem_cons_zero, List.getElem_cons_succ, List.setIfInBounds_toArray, List.set_cons_zero, List.set_cons_succ]
        refine wpAnyH_take (i := 10) (v := ?_) rfl (by kernel_rfl) (by kernel_rfl) (by kernel_rfl) (fun _ _ _ h => h) (Or.inl ⟨by rfl, ?_⟩) (by assumption) ?_
        rotate_left
        · intro w hSw; (try dsimp only at hSw); go_simp; try with_reducible rfl
        try simp only [Act.put, List.getElem_toArray, List.getElem_cons_zero, List.getElem_cons_succ, List.setIfInBounds_toArray, List.set_cons_zero, List.set_cons_succ]
        refine wpAnyH_take (i := 11) (v := ?_) rfl (by kernel_rfl) (by kernel_rfl) (by kernel_rfl) (fun _ _ _ h => h) (Or.inl ⟨by rfl, ?_⟩) (by assumption) ?_
        rotate_left
        · intro w hSw; (try dsimp only at hSw); go_simp; try with_reducible rfl
        try simp only [Act.put, List.getElem_toArray, List.getElem_cons_zero, List.getElem_cons_succ, List.setIfInBounds_toArray, List.set_cons_zero, List.set_cons_succ]
        generalize Vd.heap.size = gz at *
        refine wpAnyH_ready (rs := [13]) (by kernel_rfl) (by simp) ?_
        refine AllReadyH.cons rfl (fun K hK => ?_) AllReadyH.nil
        have z0 := xb.cell 0 rfl
        have y0 := xb.frozen 0
        have z1 := xb.cell 1 rfl
        have y1 := xb.frozen 1
        have z2 := xb.cell 2 rfl
        have y2 := xb.frozen 2
        have z3 := xb.cell 3 rfl
        have y3 := xb.frozen 3
        have z4 := xb.cell 4 rfl
        have y4 := xb.frozen 4
        go_simp
        clear z0 y0 z1 y1 z2 y2 z3 y3 z4 y4
        replace xf := (((((xf.other nxf 0 (.string a.b0)).other nxf 1 (.string a.b1)).other nxf 2 (.int .i64 a.e0)).other nxf 3 (.int .i64 a.e1)).other nxf 4 (.int .i64 a.lim))
        replace xa := (((((xa.other nxa 0 (.string a.b0)).other nxa 1 (.string a.b1)).other nxa 2 (.int .i64 a.e0)).other nxa 3 (.int .i64 a.e1)).other nxa 4 (.int .i64 a.lim))
        replace xb : Box 25 (((((Vz.setCell ⟨gz, 0, none⟩ (.string a.b0)).setCell ⟨gz, 1, none⟩ (.string a.b1)).setCell ⟨gz, 2, none⟩ (.int .i64 a.e0)).setCell ⟨gz, 3, none⟩ (.int .i64 a.e1)).setCell ⟨gz, 4, none⟩ (.int .i64 a.lim)) gz [.string a.b0, .string a.b1, .int .i64 a.e0, .int .i64 a.e1, .int .i64 a.lim] := (((((xb.set 0 (.string a.b0)).set 1 (.string a.b1)).set 2 (.int .i64 a.e0)).set 3 (.int .i64 a.e1)).set 4 (.int .i64 a.lim))
        replace hB : Below W.heap.size W (((((Vz.setCell ⟨gz, 0, none⟩ (.string a.b0)).setCell ⟨gz, 1, none⟩ (.string a.b1)).setCell ⟨gz, 2, none⟩ (.int .i64 a.e0)).setCell ⟨gz, 3, none⟩ (.int .i64 a.e1)).setCell ⟨gz, 4, none⟩ (.int .i64 a.lim)) := (((((hB.setCell hgz _).setCell hgz _).setCell hgz _).setCell hgz _).setCell hgz _)
        generalize (((((Vz.setCell ⟨gz, 0, none⟩ (.string a.b0)).setCell ⟨gz, 1, none⟩ (.string a.b1)).setCell ⟨gz, 2, none⟩ (.int .i64 a.e0)).setCell ⟨gz, 3, none⟩ (.int .i64 a.e1)).setCell ⟨gz, 4, none⟩ (.int .i64 a.lim)) = Vn at *
        clear hHeld
        refine hK.out _ _ ?_ (fun hHeld => ?_)
        · exact ⟨xf.cell 0 rfl, xf.cell 1 rfl, xf.cell 2 rfl, xf.cell 3 rfl, xf.cell 4 rfl⟩
        clear hK K
        try simp only [Act.put, List.getElem_toArray, List.getElem_cons_zero, List.getElem_cons_succ, List.setIfInBounds_toArray, List.set_cons_zero, List.set_cons_succ]
        refine wpAnyH_take (i := 14) (v := ?_) rfl (by kernel_rfl) (by kernel_rfl) (by kernel_rfl) (fun _ _ _ h => h) (Or.inl ⟨by rfl, ?_⟩) (by assumption) ?_
        rotate_left
        · intro w hSw; (try dsimp only at hSw); go_simp; try with_reducible rfl
        try simp only [Act.put, List.getElem_toArray, List.getElem_cons_zero, List.getElem_cons_succ, List.setIfInBounds_toArray, List.set_cons_zero, List.set_cons_succ]
        refine wpAnyH_take (i := 15) (v := ?_) rfl (by kernel_rfl) (by kernel_rfl) (by kernel_rfl) (fun _ _ _ h => h) (Or.inl ⟨by rfl, ?_⟩) (by assumption) ?_
        rotate_left
        · intro w hSw; (try dsimp only at hSw); go_simp; try with_reducible rfl
        try simp only [Act.put, List.getElem_toArray, List.getElem_cons_zero, List.getElem_cons_succ, List.setIfInBounds_toArray, List.set_cons_zero, List.set_cons_succ]
        refine wpAnyH_done (by kernel_rfl) ?_ _
        have xf0 := xf.cell 0 rfl
        have xf1 := xf.cell 1 rfl
        have xf2 := xf.cell 2 rfl
        have xf3 := xf.cell 3 rfl
        have xf4 := xf.cell 4 rfl
        have xa0 := xa.cell 0 rfl
        have xa1 := xa.cell 1 rfl
        have xa2 := xa.cell 2 rfl
        have xa3 := xa.cell 3 rfl
        have xa4 := xa.cell 4 rfl
        have xb0 := xb.cell 0 rfl
        have xb1 := xb.cell 1 rfl
        have xb2 := xb.cell 2 rfl
        have xb3 := xb.cell 3 rfl
        have xb4 := xb.cell 4 rfl
        go_wp2
        go_ret
        exact ⟨rfl, hB⟩
    · have hnc : ∀ k : Nat, k < l.length → (k : Int) ≠ cut := fun k hk h => hc0 (by omega)
      replace hnc := Lib.hid hnc
      have b0 : (decide (0 ≤ cut) && decide (cut < (l.length : Int))) = false := by rw [Bool.and_eq_false_iff]; simp; omega
      have HOP := Lib.hid (fun (k : Nat) (o : PwOp) (hk : l[k]? = some o) => (show ∃ g off, lA = some ⟨g, off, none⟩ ∧ ∀ V : World, Below W.heap.size W V → (V.cell? ⟨g, off + k * 4, none⟩ = some (.int .i64 o.kind) ∧ V.cell? ⟨g, off + k * 4 + 1, none⟩ = some (.int .i64 o.bank) ∧ V.cell? ⟨g, off + k * 4 + 2, none⟩ = some (.int .i64 o.q) ∧ V.cell? ⟨g, off + k * 4 + 3, none⟩ = some (.string o.d)) from by
        have hk1 : k < l.length := (List.getElem?_eq_some_iff.1 hk).1
        obtain ⟨g, off, e, hg, hcl⟩ := hl (by omega)
        refine ⟨g, off, e, fun V hV => ?_⟩
        obtain ⟨a, b, c, d⟩ := hcl k o hk
        exact ⟨(hV.cell (p := ⟨g, _, none⟩) hg).trans a, (hV.cell (p := ⟨g, _, none⟩) hg).trans b, (hV.cell (p := ⟨g, _, none⟩) hg).trans c, (hV.cell (p := ⟨g, _, none⟩) hg).trans d⟩))
      by_cases hc1 : cut < 0
      · have b1 : ¬ 0 ≤ cut := by omega
        have hB : Below W.heap.size W (W.alloc (.cells #[.string f.b0, .string f.b1, .int .i64 f.e0, .int .i64 f.e1, .int .i64 f.lim] 25)) := (Below.refl _ _).alloc (Nat.le_refl _) _
        have xf := Box.new 25 W [.string f.b0, .string f.b1, .int .i64 f.e0, .int .i64 f.e1, .int .i64 f.lim]
        go_enter Try.func10, Try.ntmps10
        go_wp2_with fail
        refine (TB.out _ (hl.seq hB)).mono ?_
        rintro e W1 ⟨rfl, k1⟩
        replace hB := below_seq hB k1
        replace xf := xf.seq k1
        clear k1
        have xf0 := xf.cell 0 rfl
        have xf1 := xf.cell 1 rfl
        have xf2 := xf.cell 2 rfl
        have xf3 := xf.cell 3 rfl
        have xf4 := xf.cell 4 rfl
        go_wp2_with fail
        refine (shown04 _).mono ?_
        rintro e W2 ⟨rfl, k2⟩
        replace hB := below_seq hB k2
        replace xf := xf.seq k2
        clear k2
        clear xf0 xf1 xf2 xf3 xf4
        have xf0 := xf.cell 0 rfl
        have xf1 := xf.cell 1 rfl
        have xf2 := xf.cell 2 rfl
        have xf3 := xf.cell 3 rfl
        have xf4 := xf.cell 4 rfl
        go_wp2_with fail
        refine (T1.out _ (hl.seq hB)).mono ?_
        rintro e W3 ⟨rfl, k3⟩
        replace hB := below_seq hB k3
        replace xf := xf.seq k3
        clear k3
        clear xf0 xf1 xf2 xf3 xf4
        have xf0 := xf.cell 0 rfl
        have xf1 := xf.cell 1 rfl
        have xf2 := xf.cell 2 rfl
        have xf3 := xf.cell 3 rfl
        have xf4 := xf.cell 4 rfl
        have nfa : W.heap.size ≠ W3.heap.size := Nat.ne_of_lt xf.lt
        have xa := Box.new 25 W3 [.string a.b0, .string a.b1, .int .i64 a.e0, .int .i64 a.e1, .int .i64 a.lim]
        replace xf := xf.alloc (.cells #[.string a.b0, .string a.b1, .int .i64 a.e0, .int .i64 a.e1, .int .i64 a.lim] 25)
        replace hB := hB.alloc hB.size (.cells #[.string a.b0, .string a.b1, .int .i64 a.e0, .int .i64 a.e1, .int .i64 a.lim] 25)
        clear xf0 xf1 xf2 xf3 xf4
        have xf0 := xf.cell 0 rfl
        have xf1 := xf.cell 1 rfl
        have xf2 := xf.cell 2 rfl
        have xf3 := xf.cell 3 rfl
        have xf4 := xf.cell 4 rfl
        have xa0 := xa.cell 0 rfl
        have xa1 := xa.cell 1 rfl
        have xa2 := xa.cell 2 rfl
        have xa3 := xa.cell 3 rfl
        have xa4 := xa.cell 4 rfl
        replace hl := Lib.hid hl
        go_wp2_with fail
        generalize W3.alloc (.cells #[.string a.b0, .string a.b1, .int .i64 a.e0, .int .i64 a.e1, .int .i64 a.lim] 25) = V at *
        clear xf0 xa0 xf1 xa1 xf2 xa2 xf3 xa3 xf4 xa4
        generalize W3.heap.size = gA at *
        go_loopw [15] (fun i w => ∃ (k : Nat) (g : Fl), k ≤ l.length ∧ i = .int .i64 k ∧ g.fit ∧ playR f l cut m = playG cut m (l.drop k) g k ∧ Box 25 w W.heap.size [.string g.b0, .string g.b1, .int .i64 g.e0, .int .i64 g.e1, .int .i64 g.lim] ∧ Box 25 w gA [.string a.b0, .string a.b1, .int .i64 a.e0, .int .i64 a.e1, .int .i64 a.lim] ∧ Below W.heap.size W w)
          (fun i _ => l.length - (intOf i).toNat)
        case atStart => exact ⟨0, f, Nat.zero_le _, rfl, hfit, rfl, xf, xa, hB⟩
        case round =>
          clear xf xa hB
          obtain ⟨k, g, hk, rfl, hgk, HP, xf, xa, hB⟩ := hrel
          replace HP := Lib.hid HP
          by_cases hlt : k < l.length
          · obtain ⟨o, ho⟩ : ∃ o, l[k]? = some o := ⟨_, List.getElem?_eq_getElem hlt⟩
            obtain ⟨gL, off, rfl, HC⟩ := HOP.out k o ho
            have hok := hlo o (List.mem_of_getElem? ho)
            replace HC := Lib.hid HC
            have hkc := hnc.out k hlt
            have i0 : (0 : Int) ≤ (k : Int) := by omega
            have i1 : (k : Int) < (l.length : Int) := by omega
            by_cases he : doErr g o = 0
            · have HS := Lib.hid (HP.out.trans (play_step ho hkc he))
              have hgn := doF_fit hgk o
              have TD := Lib.hid (fun (V : World) => (show Calls Try.prog 29 #[.agg #[.string g.b0, .string g.b1, .int .i64 g.e0, .int .i64 g.e1, .int .i64 g.lim], .agg #[.int .i64 o.kind, .int .i64 o.bank, .int .i64 o.q, .string o.d]] V fun e' W' => e' = .returned (.tuple #[.agg #[.string (doF g o).b0, .string (doF g o).b1, .int .i64 (doF g o).e0, .int .i64 (doF g o).e1, .int .i64 (doF g o).lim], .int .i64 0]) ∧ Below V.heap.size V W' from by have h := own04Do g o V hgk hok; rwa [he] at h))
              clear he ho HP
              generalize doF g o = g' at *
              go_wp2_with fail
              generalize hwr : wr = V at *
              clear hwr
              replace hB := hB.drew
              replace xf := xf.drew
              replace xa := xa.drew
              refine wp_region_held_drew (S := fun w' => w'.cell? ⟨W.heap.size, 0, none⟩ = some (.string g.b0) ∧ w'.cell? ⟨W.heap.size, 1, none⟩ = some (.string g.b1) ∧ w'.cell? ⟨W.heap.size, 2, none⟩ = some (.int .i64 g.e0) ∧ w'.cell? ⟨W.heap.size, 3, none⟩ = some (.int .i64 g.e1) ∧ w'.cell? ⟨W.heap.size, 4, none⟩ = some (.int .i64 g.lim) ∧ w'.cell? ⟨gL, off + k * 4, none⟩ = some (.int .i64 o.kind) ∧ w'.cell? ⟨gL, off + k * 4 + 1, none⟩ = some (.int .i64 o.bank) ∧ w'.cell? ⟨gL, off + k * 4 + 2, none⟩ = some (.int .i64 o.q) ∧ w'.cell? ⟨gL, off + k * 4 + 3, none⟩ = some (.string o.d)) (by kernel_rfl) ?_ (fun hHeld => ?_)
              · exact ⟨xf.cell 0 rfl, xf.cell 1 rfl, xf.cell 2 rfl, xf.cell 3 rfl, xf.cell 4 rfl, (HC.out _ hB).1, (HC.out _ hB).2.1, (HC.out _ hB).2.2.1, (HC.out _ hB).2.2.2⟩
              generalize V.drew = Vd at *
              refine wpAnyH_take (i := 0) (v := ?_) rfl (by kernel_rfl) (by kernel_rfl) (by kernel_rfl) (fun _ _ _ h => h) (Or.inl ⟨by rfl, ?_⟩) (by assumption) ?_
              rotate_left
              · intro w hSw; (try dsimp only at hSw); go_simp; try with_reducible rfl
              try simp only [Act.put, List.getElem_toArray, List.getElem_cons_zero, List.getElem_cons_succ, List.setIfInBounds_toArray, List.set_cons_zero, List.set_cons_succ]
              refine wpAnyH_take (i := 1) (v := ?_) rfl (by kernel_rfl) (by kernel_rfl) (by kernel_rfl) (fun _ _ _ h => h) (Or.inl ⟨by rfl, ?_⟩) (by assumption) ?_
              rotate_left
              · intro w hSw; (try dsimp only at hSw); go_simp; try with_reducible rfl
              try simp only [Act.put, List.getElem_toArray, List.getElem_cons_zero, List.getElem_cons_succ, List.setIfInBounds_toArray, List.set_cons_zero, List.set_cons_succ]
              refine wpAnyH_take (i := 2) (v := ?_) rfl (by kernel_rfl) (by kernel_rfl) (by kernel_rfl) (fun _ _ _ h => h) (Or.inl ⟨by rfl, ?_⟩) (by assumption) ?_
              rotate_left
              · intro w hSw; (try dsimp only at hSw); go_simp; try with_reducible rfl
              try simp only [Act.put, List.getElem_toArray, List.getElem_cons_zero, List.getElem_cons_succ, List.setIfInBounds_toArray, List.set_cons_zero, List.set_cons_succ]
              refine wpAnyH_take (i := 3) (v := ?_) rfl (by kernel_rfl) (by kernel_rfl) (by kernel_rfl) (fun _ _ _ h => h) (Or.inl ⟨by rfl, ?_⟩) (by assumption) ?_
              rotate_left
              · intro w hSw; (try dsimp only at hSw); go_simp; try with_reducible rfl
              try simp only [Act.put, List.getElem_toArray, List.getElem_cons_zero, List.getElem_cons_succ, List.setIfInBounds_toArray, List.set_cons_zero, List.set_cons_succ]
              refine wpAnyH_take (i := 4) (v := ?_) rfl (by kernel_rfl) (by kernel_rfl) (by kernel_rfl) (fun _ _ _ h => h) (Or.inl ⟨by rfl, ?_⟩) (by assumption) ?_
              rotate_left
              · intro w hSw; (try dsimp only at hSw); go_simp; try with_reducible rfl
              try simp only [Act.put, List.getElem_toArray, List.getElem_cons_zero, List.getElem_cons_succ, List.setIfInBounds_toArray, List.set_cons_zero, List.set_cons_succ]
              refine wpAnyH_ready (rs := [5, 9]) (by kernel_rfl) (by simp) ?_
              refine AllReadyH.cons rfl (fun K hK => ?_) (AllReadyH.cons rfl (fun K hK => ?_) AllReadyH.nil)
              · go_simp
                refine (TD.out _).mono ?_
                rintro e Vc ⟨rfl, hh⟩
                replace hB := below_seq hB hh
                replace xf := xf.seq hh
                replace xa := xa.seq hh
                clear hHeld
                refine hK.out _ _ ?_ (fun hHeld => ?_)
                · exact ⟨xf.cell 0 rfl, xf.cell 1 rfl, xf.cell 2 rfl, xf.cell 3 rfl, xf.cell 4 rfl, (HC.out _ hB).1, (HC.out _ hB).2.1, (HC.out _ hB).2.2.1, (HC.out _ hB).2.2.2⟩
                clear hK K
                try simp only [Act.put, List.getElem_toArray, List.getElem_cons_zero, List.getElem_cons_succ, List.setIfInBounds_toArray, List.set_cons_zero, List.set_cons_succ]
                refine wpAnyH_take (i := 6) (v := ?_) rfl (by kernel_rfl) (by kernel_rfl) (by kernel_rfl) (fun _ _ _ h => h) (Or.inl ⟨by rfl, ?_⟩) (by assumption) ?_
                rotate_left
                · intro w hSw; (try dsimp only at hSw); go_simp; try with_reducible rfl
                try simp only [Act.put, List.getElem_toArray, List.getElem_cons_zero, List.getElem_cons_succ, List.setIfInBounds_toArray, List.set_cons_zero, List.set_cons_succ]
                refine wpAnyH_take (i := 7) (v := ?_) rfl (by kernel_rfl) (by kernel_rfl) (by kernel_rfl) (fun _ _ _ h => h) (Or.inl ⟨by rfl, ?_⟩) (by assumption) ?_
                rotate_left
                · intro w hSw; (try dsimp only at hSw); go_simp; try with_reducible rfl
                try simp only [Act.put, List.getElem_toArray, List.getElem_cons_zero, List.getElem_cons_succ, List.setIfInBounds_toArray, List.set_cons_zero, List.set_cons_succ]
                refine wpAnyH_take (i := 8) (v := ?_) rfl (by kernel_rfl) (by kernel_rfl) (by kernel_rfl) (fun _ _ _ h => h) (Or.inl ⟨by rfl, ?_⟩) (by assumption) ?_
                rotate_left
                · intro w hSw; (try dsimp only at hSw); go_simp; try with_reducible rfl
                try simp only [Act.put, List.getElem_toArray, List.getElem_cons_zero, List.getElem_cons_succ, List.setIfInBounds_toArray, List.set_cons_zero, List.set_cons_succ]
                refine wpAnyH_ready (rs := [9]) (by kernel_rfl) (by simp) ?_
                refine AllReadyH.cons rfl (fun K hK => ?_) AllReadyH.nil
                go_simp
                have xb := Box.new 25 Vc [.string ⟨#[]⟩, .string ⟨#[]⟩, .int .i64 0, .int .i64 0, .int .i64 0]
                have hgz : W.heap.size ≤ Vc.heap.size := hB.size
                have nxf : Vc.heap.size ≠ W.heap.size := by have := xf.lt; omega
                replace xf := xf.alloc (.cells #[.string ⟨#[]⟩, .string ⟨#[]⟩, .int .i64 0, .int .i64 0, .int .i64 0] 25)
                have nxa : Vc.heap.size ≠ gA := by have := xa.lt; omega
                replace xa := xa.alloc (.cells #[.string ⟨#[]⟩, .string ⟨#[]⟩, .int .i64 0, .int .i64 0, .int .i64 0] 25)
                replace hB := hB.alloc hB.size (.cells #[.string ⟨#[]⟩, .string ⟨#[]⟩, .int .i64 0, .int .i64 0, .int .i64 0] 25)
                generalize Vc.alloc (.cells #[.string ⟨#[]⟩, .string ⟨#[]⟩, .int .i64 0, .int .i64 0, .int .i64 0] 25) = Vz at *
                clear hHeld
                refine hK.out _ _ ?_ (fun hHeld => ?_)
                · exact ⟨xf.cell 0 rfl, xf.cell 1 rfl, xf.cell 2 rfl, xf.cell 3 rfl, xf.cell 4 rfl, (HC.out _ hB).1, (HC.out _ hB).2.1, (HC.out _ hB).2.2.1, (HC.out _ hB).2.2.2⟩
                clear hK K
                try simp only [Act.put, List.getElem_toArray, List.getElem_cons_zero, List.getElem_cons_succ, List.setIfInBounds_toArray, List.set_cons_zero, List.set_cons_succ]
                generalize Vc.heap.size = gz at *
                refine wpAnyH_ready (rs := [10]) (by kernel_rfl) (by simp) ?_
                refine AllReadyH.cons rfl (fun K hK => ?_) AllReadyH.nil
                have z0 := xb.cell 0 rfl
                have y0 := xb.frozen 0
                have z1 := xb.cell 1 rfl
                have y1 := xb.frozen 1
                have z2 := xb.cell 2 rfl
                have y2 := xb.frozen 2
                have z3 := xb.cell 3 rfl
                have y3 := xb.frozen 3
                have z4 := xb.cell 4 rfl
                have y4 := xb.frozen 4
                go_simp
                clear z0 y0 z1 y1 z2 y2 z3 y3 z4 y4
                replace xf := (((((xf.other nxf 0 (.string g'.b0)).other nxf 1 (.string g'.b1)).other nxf 2 (.int .i64 g'.e0)).other nxf 3 (.int .i64 g'.e1)).other nxf 4 (.int .i64 g'.lim))
                replace xa := (((((xa.other nxa 0 (.string g'.b0)).other nxa 1 (.string g'.b1)).other nxa 2 (.int .i64 g'.e0)).other nxa 3 (.int .i64 g'.e1)).other nxa 4 (.int .i64 g'.lim))
                replace xb : Box 25 (((((Vz.setCell ⟨gz, 0, none⟩ (.string g'.b0)).setCell ⟨gz, 1, none⟩ (.string g'.b1)).setCell ⟨gz, 2, none⟩ (.int .i64 g'.e0)).setCell ⟨gz, 3, none⟩ (.int .i64 g'.e1)).setCell ⟨gz, 4, none⟩ (.int .i64 g'.lim)) gz [.string g'.b0, .string g'.b1, .int .i64 g'.e0, .int .i64 g'.e1, .int .i64 g'.lim] := (((((xb.set 0 (.string g'.b0)).set 1 (.string g'.b1)).set 2 (.int .i64 g'.e0)).set 3 (.int .i64 g'.e1)).set 4 (.int .i64 g'.lim))
                replace hB : Below W.heap.size W (((((Vz.setCell ⟨gz, 0, none⟩ (.string g'.b0)).setCell ⟨gz, 1, none⟩ (.string g'.b1)).setCell ⟨gz, 2, none⟩ (.int .i64 g'.e0)).setCell ⟨gz, 3, none⟩ (.int .i64 g'.e1)).setCell ⟨gz, 4, none⟩ (.int .i64 g'.lim)) := (((((hB.setCell hgz _).setCell hgz _).setCell hgz _).setCell hgz _).setCell hgz _)
                generalize (((((Vz.setCell ⟨gz, 0, none⟩ (.string g'.b0)).setCell ⟨gz, 1, none⟩ (.string g'.b1)).setCell ⟨gz, 2, none⟩ (.int .i64 g'.e0)).setCell ⟨gz, 3, none⟩ (.int .i64 g'.e1)).setCell ⟨gz, 4, none⟩ (.int .i64 g'.lim)) = Vn at *
                clear hHeld
                refine hK.out _ _ ?_ (fun hHeld => ?_)
                · exact ⟨xf.cell 0 rfl, xf.cell 1 rfl, xf.cell 2 rfl, xf.cell 3 rfl, xf.cell 4 rfl, (HC.out _ hB).1, (HC.out _ hB).2.1, (HC.out _ hB).2.2.1, (HC.out _ hB).2.2.2⟩
                clear hK K
                try simp only [Act.put, List.getElem_toArray, List.getElem_cons_zero, List.getElem_cons_succ, List.setIfInBounds_toArray, List.set_cons_zero, List.set_cons_succ]
                refine wpAnyH_take (i := 11) (v := ?_) rfl (by kernel_rfl) (by kernel_rfl) (by kernel_rfl) (fun _ _ _ h => h) (Or.inl ⟨by rfl, ?_⟩) (by assumption) ?_
                rotate_left
                · intro w hSw; (try dsimp only at hSw); go_simp; try with_reducible rfl
                try simp only [Act.put, List.getElem_toArray, List.getElem_cons_zero, List.getElem_cons_succ, List.setIfInBounds_toArray, List.set_cons_zero, List.set_cons_succ]
                refine wpAnyH_done (by kernel_rfl) ?_ _
                have xf0 := xf.cell 0 rfl
                have xf1 := xf.cell 1 rfl
                have xf2 := xf.cell 2 rfl
                have xf3 := xf.cell 3 rfl
                have xf4 := xf.cell 4 rfl
                have xb0 := xb.cell 0 rfl
                have xb1 := xb.cell 1 rfl
                have xb2 := xb.cell 2 rfl
                have xb3 := xb.cell 3 rfl
                have xb4 := xb.cell 4 rfl
                have xz0 := xf.frozen 0
                have xz1 := xf.frozen 1
                have xz2 := xf.frozen 2
                have xz3 := xf.frozen 3
                have xz4 := xf.frozen 4
                go_wp2
                go_roundw
                case rel => exact ⟨k + 1, g', by omega, by go_num, hgn, HS.out, ((((xf.set 0 _).set 1 _).set 2 _).set 3 _).set 4 _, ((((xa.other nfa 0 _).other nfa 1 _).other nfa 2 _).other nfa 3 _).other nfa 4 _, ((((hB.setCell (Nat.le_refl _) _).setCell (Nat.le_refl _) _).setCell (Nat.le_refl _) _).setCell (Nat.le_refl _) _).setCell (Nat.le_refl _) _⟩
                case measure => simp [intOf]; omega
              · go_simp
                have xb := Box.new 25 Vd [.string ⟨#[]⟩, .string ⟨#[]⟩, .int .i64 0, .int .i64 0, .int .i64 0]
                have hgz : W.heap.size ≤ Vd.heap.size := hB.size
                have nxf : Vd.heap.size ≠ W.heap.size := by have := xf.lt; omega
                replace xf := xf.alloc (.cells #[.string ⟨#[]⟩, .string ⟨#[]⟩, .int .i64 0, .int .i64 0, .int .i64 0] 25)
                have nxa : Vd.heap.size ≠ gA := by have := xa.lt; omega
                replace xa := xa.alloc (.cells #[.string ⟨#[]⟩, .string ⟨#[]⟩, .int .i64 0, .int .i64 0, .int .i64 0] 25)
                replace hB := hB.alloc hB.size (.cells #[.string ⟨#[]⟩, .string ⟨#[]⟩, .int .i64 0, .int .i64 0, .int .i64 0] 25)
                generalize Vd.alloc (.cells #[.string ⟨#[]⟩, .string ⟨#[]⟩, .int .i64 0, .int .i64 0, .int .i64 0] 25) = Va at *
                clear hHeld
                refine hK.out _ _ ?_ (fun hHeld => ?_)
                · exact ⟨xf.cell 0 rfl, xf.cell 1 rfl, xf.cell 2 rfl, xf.cell 3 rfl, xf.cell 4 rfl, (HC.out _ hB).1, (HC.out _ hB).2.1, (HC.out _ hB).2.2.1, (HC.out _ hB).2.2.2⟩
                clear hK K
                try simp only [Act.put, List.getElem_toArray, List.getElem_cons_zero, List.getElem_cons_succ, List.setIfInBounds_toArray, List.set_cons_zero, List.set_cons_succ]
                refine wpAnyH_ready (rs := [5]) (by kernel_rfl) (by simp) ?_
                refine AllReadyH.cons rfl (fun K hK => ?_) AllReadyH.nil
                go_simp
                refine (TD.out _).mono ?_
                rintro e Vz ⟨rfl, hh⟩
                replace hB := below_seq hB hh
                replace xf := xf.seq hh
                replace xa := xa.seq hh
                replace xb := xb.seq hh
                clear hHeld
                refine hK.out _ _ ?_ (fun hHeld => ?_)
                · exact ⟨xf.cell 0 rfl, xf.cell 1 rfl, xf.cell 2 rfl, xf.cell 3 rfl, xf.cell 4 rfl, (HC.out _ hB).1, (HC.out _ hB).2.1, (HC.out _ hB).2.2.1, (HC.out _ hB).2.2.2⟩
                clear hK K
                try simp only [Act.put, List.getElem_toArray, List.getElem_cons_zero, List.getElem_cons_succ, List.setIfInBounds_toArray, List.set_cons_zero, List.set_cons_succ]
                refine wpAnyH_take (i := 6) (v := ?_) rfl (by kernel_rfl) (by kernel_rfl) (by kernel_rfl) (fun _ _ _ h => h) (Or.inl ⟨by rfl, ?_⟩) (by assumption) ?_
                rotate_left
                · intro w hSw; (try dsimp only at hSw); go_simp; try with_reducible rfl
                try simp only [Act.put, List.getElem_toArray, List.getElem_cons_zero, List.getElem_cons_succ, List.setIfInBounds_toArray, List.set_cons_zero, List.set_cons_succ]
                refine wpAnyH_take (i := 7) (v := ?_) rfl (by kernel_rfl) (by kernel_rfl) (by kernel_rfl) (fun _ _ _ h => h) (Or.inl ⟨by rfl, ?_⟩) (by assumption) ?_
                rotate_left
                · intro w hSw; (try dsimp only at hSw); go_simp; try with_reducible rfl
                try simp only [Act.put, List.getElem_toArray, List.getElem_cons_zero, List.getElem_cons_succ, List.setIfInBounds_toArray, List.set_cons_zero, List.set_cons_succ]
                refine wpAnyH_take (i := 8) (v := ?_) rfl (by kernel_rfl) (by kernel_rfl) (by kernel_rfl) (fun _ _ _ h => h) (Or.inl ⟨by rfl, ?_⟩) (by assumption) ?_
                rotate_left
                · intro w hSw; (try dsimp only at hSw); go_simp; try with_reducible rfl
                try simp only [Act.put, List.getElem_toArray, List.getElem_cons_zero, List.getElem_cons_succ, List.setIfInBounds_toArray, List.set_cons_zero, List.set_cons_succ]
                generalize Vd.heap.size = gz at *
                refine wpAnyH_ready (rs := [10]) (by kernel_rfl) (by simp) ?_
                refine AllReadyH.cons rfl (fun K hK => ?_) AllReadyH.nil
                have z0 := xb.cell 0 rfl
                have y0 := xb.frozen 0
                have z1 := xb.cell 1 rfl
                have y1 := xb.frozen 1
                have z2 := xb.cell 2 rfl
                have y2 := xb.frozen 2
                have z3 := xb.cell 3 rfl
                have y3 := xb.frozen 3
                have z4 := xb.cell 4 rfl
                have y4 := xb.frozen 4
                go_simp
                clear z0 y0 z1 y1 z2 y2 z3 y3 z4 y4
                replace xf := (((((xf.other nxf 0 (.string g'.b0)).other nxf 1 (.string g'.b1)).other nxf 2 (.int .i64 g'.e0)).other nxf 3 (.int .i64 g'.e1)).other nxf 4 (.int .i64 g'.lim))
                replace xa := (((((xa.other nxa 0 (.string g'.b0)).other nxa 1 (.string g'.b1)).other nxa 2 (.int .i64 g'.e0)).other nxa 3 (.int .i64 g'.e1)).other nxa 4 (.int .i64 g'.lim))
                replace xb : Box 25 (((((Vz.setCell ⟨gz, 0, none⟩ (.string g'.b0)).setCell ⟨gz, 1, none⟩ (.string g'.b1)).setCell ⟨gz, 2, none⟩ (.int .i64 g'.e0)).setCell ⟨gz, 3, none⟩ (.int .i64 g'.e1)).setCell ⟨gz, 4, none⟩ (.int .i64 g'.lim)) gz [.string g'.b0, .string g'.b1, .int .i64 g'.e0, .int .i64 g'.e1, .int .i64 g'.lim] := (((((xb.set 0 (.string g'.b0)).set 1 (.string g'.b1)).set 2 (.int .i64 g'.e0)).set 3 (.int .i64 g'.e1)).set 4 (.int .i64 g'.lim))
                replace hB : Below W.heap.size W (((((Vz.setCell ⟨gz, 0, none⟩ (.string g'.b0)).setCell ⟨gz, 1, none⟩ (.string g'.b1)).setCell ⟨gz, 2, none⟩ (.int .i64 g'.e0)).setCell ⟨gz, 3, none⟩ (.int .i64 g'.e1)).setCell ⟨gz, 4, none⟩ (.int .i64 g'.lim)) := (((((hB.setCell hgz _).setCell hgz _).setCell hgz _).setCell hgz _).setCell hgz _)
                generalize (((((Vz.setCell ⟨gz, 0, none⟩ (.string g'.b0)).setCell ⟨gz, 1, none⟩ (.string g'.b1)).setCell ⟨gz, 2, none⟩ (.int .i64 g'.e0)).setCell ⟨gz, 3, none⟩ (.int .i64 g'.e1)).setCell ⟨gz, 4, none⟩ (.int .i64 g'.lim)) = Vn at *
                clear hHeld
                refine hK.out _ _ ?_ (fun hHeld => ?_)
                · exact ⟨xf.cell 0 rfl, xf.cell 1 rfl, xf.cell 2 rfl, xf.cell 3 rfl, xf.cell 4 rfl, (HC.out _ hB).1, (HC.out _ hB).2.1, (HC.out _ hB).2.2.1, (HC.out _ hB).2.2.2⟩
                clear hK K
                try simp only [Act.put, List.getElem_toArray, List.getElem_cons_zero, List.getElem_cons_succ, List.setIfInBounds_toArray, List.set_cons_zero, List.set_cons_succ]
                refine wpAnyH_take (i := 11) (v := ?_) rfl (by kernel_rfl) (by kernel_rfl) (by kernel_rfl) (fun _ _ _ h => h) (Or.inl ⟨by rfl, ?_⟩) (by assumption) ?_
                rotate_left
                · intro w hSw; (try dsimp only at hSw); go_simp; try with_reducible rfl
                try simp only [Act.put, List.getElem_toArray, List.getElem_cons_zero, List.getElem_cons_succ, List.setIfInBounds_toArray, List.set_cons_zero, List.set_cons_succ]
                refine wpAnyH_done (by kernel_rfl) ?_ _
                have xf0 := xf.cell 0 rfl
                have xf1 := xf.cell 1 rfl
                have xf2 := xf.cell 2 rfl
                have xf3 := xf.cell 3 rfl
                have xf4 := xf.cell 4 rfl
                have xb0 := xb.cell 0 rfl
                have xb1 := xb.cell 1 rfl
                have xb2 := xb.cell 2 rfl
                have xb3 := xb.cell 3 rfl
                have xb4 := xb.cell 4 rfl
                have xz0 := xf.frozen 0
                have xz1 := xf.frozen 1
                have xz2 := xf.frozen 2
                have xz3 := xf.frozen 3
                have xz4 := xf.frozen 4
                go_wp2
                go_roundw
                case rel => exact ⟨k + 1, g', by omega, by go_num, hgn, HS.out, ((((xf.set 0 _).set 1 _).set 2 _).set 3 _).set 4 _, ((((xa.other nfa 0 _).other nfa 1 _).other nfa 2 _).other nfa 3 _).other nfa 4 _, ((((hB.setCell (Nat.le_refl _) _).setCell (Nat.le_refl _) _).setCell (Nat.le_refl _) _).setCell (Nat.le_refl _) _).setCell (Nat.le_refl _) _⟩
                case measure => simp [intOf]; omega
            · have HS := HR.symm.trans (HP.out.trans (play_stop ho hkc he))
              simp only [Prod.mk.injEq] at HS
              obtain ⟨rfl, rfl, rfl⟩ := HS
              have hd := doF_err he
              have TD := Lib.hid (fun (V : World) => (show Calls Try.prog 29 #[.agg #[.string a.b0, .string a.b1, .int .i64 a.e0, .int .i64 a.e1, .int .i64 a.lim], .agg #[.int .i64 o.kind, .int .i64 o.bank, .int .i64 o.q, .string o.d]] V fun e' W' => e' = .returned (.tuple #[.agg #[.string a.b0, .string a.b1, .int .i64 a.e0, .int .i64 a.e1, .int .i64 a.lim], .int .i64 (doErr a o)]) ∧ Below V.heap.size V W' from by have h := own04Do a o V hgk hok; rwa [hd] at h))
              have n1 : (doErr a o != 0) = true := bne_iff_ne.2 he
              clear hd he ho HP HR T1
              generalize doErr a o = e at *
              go_wp2_with fail
              generalize hwr : wr = V at *
              clear hwr
              replace hB := hB.drew
              replace xf := xf.drew
              replace xa := xa.drew
              refine wp_region_held_drew (S := fun w' => w'.cell? ⟨W.heap.size, 0, none⟩ = some (.string a.b0) ∧ w'.cell? ⟨W.heap.size, 1, none⟩ = some (.string a.b1) ∧ w'.cell? ⟨W.heap.size, 2, none⟩ = some (.int .i64 a.e0) ∧ w'.cell? ⟨W.heap.size, 3, none⟩ = some (.int .i64 a.e1) ∧ w'.cell? ⟨W.heap.size, 4, none⟩ = some (.int .i64 a.lim) ∧ w'.cell? ⟨gL, off + n * 4, none⟩ = some (.int .i64 o.kind) ∧ w'.cell? ⟨gL, off + n * 4 + 1, none⟩ = some (.int .i64 o.bank) ∧ w'.cell? ⟨gL, off + n * 4 + 2, none⟩ = some (.int .i64 o.q) ∧ w'.cell? ⟨gL, off + n * 4 + 3, none⟩ = some (.string o.d)) (by kernel_rfl) ?_ (fun hHeld => ?_)
              · exact ⟨xf.cell 0 rfl, xf.cell 1 rfl, xf.cell 2 rfl, xf.cell 3 rfl, xf.cell 4 rfl, (HC.out _ hB).1, (HC.out _ hB).2.1, (HC.out _ hB).2.2.1, (HC.out _ hB).2.2.2⟩
              generalize V.drew = Vd at *
              refine wpAnyH_take (i := 0) (v := ?_) rfl (by kernel_rfl) (by kernel_rfl) (by kernel_rfl) (fun _ _ _ h => h) (Or.inl ⟨by rfl, ?_⟩) (by assumption) ?_
              rotate_left
              · intro w hSw; (try dsimp only at hSw); go_simp; try with_reducible rfl
              try simp only [Act.put, List.getElem_toArray, List.getElem_cons_zero, List.getElem_cons_succ, List.setIfInBounds_toArray, List.set_cons_zero, List.set_cons_succ]
              refine wpAnyH_take (i := 1) (v := ?_) rfl (by kernel_rfl) (by kernel_rfl) (by kernel_rfl) (fun _ _ _ h => h) (Or.inl ⟨by rfl, ?_⟩) (by assumption) ?_
              rotate_left
              · intro w hSw; (try dsimp only at hSw); go_simp; try with_reducible rfl
              try simp only [Act.put, List.getElem_toArray, List.getElem_cons_zero, List.getElem_cons_succ, List.setIfInBounds_toArray, List.set_cons_zero, List.set_cons_succ]
              refine wpAnyH_take (i := 2) (v := ?_) rfl (by kernel_rfl) (by kernel_rfl) (by kernel_rfl) (fun _ _ _ h => h) (Or.inl ⟨by rfl, ?_⟩) (by assumption) ?_
              rotate_left
              · intro w hSw; (try dsimp only at hSw); go_simp; try with_reducible rfl
              try simp only [Act.put, List.getElem_toArray, List.getElem_cons_zero, List.getElem_cons_succ, List.setIfInBounds_toArray, List.set_cons_zero, List.set_cons_succ]
              refine wpAnyH_take (i := 3) (v := ?_) rfl (by kernel_rfl) (by kernel_rfl) (by kernel_rfl) (fun _ _ _ h => h) (Or.inl ⟨by rfl, ?_⟩) (by assumption) ?_
              rotate_left
              · intro w hSw; (try dsimp only at hSw); go_simp; try with_reducible rfl
              try simp only [Act.put, List.getElem_toArray, List.getElem_cons_zero, List.getElem_cons_succ, List.setIfInBounds_toArray, List.set_cons_zero, List.set_cons_succ]
              refine wpAnyH_take (i := 4) (v := ?_) rfl (by kernel_rfl) (by kernel_rfl) (by kernel_rfl) (fun _ _ _ h => h) (Or.inl ⟨by rfl, ?_⟩) (by assumption) ?_
              rotate_left
              · intro w hSw; (try dsimp only at hSw); go_simp; try with_reducible rfl
              try simp only [Act.put, List.getElem_toArray, List.getElem_cons_zero, List.getElem_cons_succ, List.setIfInBounds_toArray, List.set_cons_zero, List.set_cons_succ]
              refine wpAnyH_ready (rs := [5, 9]) (by kernel_rfl) (by simp) ?_
              refine AllReadyH.cons rfl (fun K hK => ?_) (AllReadyH.cons rfl (fun K hK => ?_) AllReadyH.nil)
              · go_simp
                refine (TD.out _).mono ?_
                rintro e Vc ⟨rfl, hh⟩
                replace hB := below_seq hB hh
                replace xf := xf.seq hh
                replace xa := xa.seq hh
                clear hHeld
                refine hK.out _ _ ?_ (fun hHeld => ?_)
                · exact ⟨xf.cell 0 rfl, xf.cell 1 rfl, xf.cell 2 rfl, xf.cell 3 rfl, xf.cell 4 rfl, (HC.out _ hB).1, (HC.out _ hB).2.1, (HC.out _ hB).2.2.1, (HC.out _ hB).2.2.2⟩
                clear hK K
                try simp only [Act.put, List.getElem_toArray, List.getElem_cons_zero, List.getElem_cons_succ, List.setIfInBounds_toArray, List.set_cons_zero, List.set_cons_succ]
                refine wpAnyH_take (i := 6) (v := ?_) rfl (by kernel_rfl) (by kernel_rfl) (by kernel_rfl) (fun _ _ _ h => h) (Or.inl ⟨by rfl, ?_⟩) (by assumption) ?_
                rotate_left
                · intro w hSw; (try dsimp only at hSw); go_simp; try with_reducible rfl
                try simp only [Act.put, List.getElem_toArray, List.getElem_cons_zero, List.getElem_cons_succ, List.setIfInBounds_toArray, List.set_cons_zero, List.set_cons_succ]
                refine wpAnyH_take (i := 7) (v := ?_) rfl (by kernel_rfl) (by kernel_rfl) (by kernel_rfl) (fun _ _ _ h => h) (Or.inl ⟨by rfl, ?_⟩) (by assumption) ?_
                rotate_left
                · intro w hSw; (try dsimp only at hSw); go_simp; try with_reducible rfl
                try simp only [Act.put, List.getElem_toArray, List.getElem_cons_zero, List.getElem_cons_succ, List.setIfInBounds_toArray, List.set_cons_zero, List.set_cons_succ]
                refine wpAnyH_take (i := 8) (v := ?_) rfl (by kernel_rfl) (by kernel_rfl) (by kernel_rfl) (fun _ _ _ h => h) (Or.inl ⟨by rfl, ?_⟩) (by assumption) ?_
                rotate_left
                · intro w hSw; (try dsimp only at hSw); go_simp; try with_reducible rfl
                try simp only [Act.put, List.getElem_toArray, List.getElem_cons_zero, List.getElem_cons_succ, List.setIfInBounds_toArray, List.set_cons_zero, List.set_cons_succ]
                refine wpAnyH_ready (rs := [9]) (by kernel_rfl) (by simp) ?_
                refine AllReadyH.cons rfl (fun K hK => ?_) AllReadyH.nil
                go_simp
                have xb := Box.new 25 Vc [.string ⟨#[]⟩, .string ⟨#[]⟩, .int .i64 0, .int .i64 0, .int .i64 0]
                have hgz : W.heap.size ≤ Vc.heap.size := hB.size
                have nxf : Vc.heap.size ≠ W.heap.size := by have := xf.lt; omega
                replace xf := xf.alloc (.cells #[.string ⟨#[]⟩, .string ⟨#[]⟩, .int .i64 0, .int .i64 0, .int .i64 0] 25)
                have nxa : Vc.heap.size ≠ gA := by have := xa.lt; omega
                replace xa := xa.alloc (.cells #[.string ⟨#[]⟩, .string ⟨#[]⟩, .int .i64 0, .int .i64 0, .int .i64 0] 25)
                replace hB := hB.alloc hB.size (.cells #[.string ⟨#[]⟩, .string ⟨#[]⟩, .int .i64 0, .int .i64 0, .int .i64 0] 25)
                generalize Vc.alloc (.cells #[.string ⟨#[]⟩, .string ⟨#[]⟩, .int .i64 0, .int .i64 0, .int .i64 0] 25) = Vz at *
                clear hHeld
                refine hK.out _ _ ?_ (fun hHeld => ?_)
                · exact ⟨xf.cell 0 rfl, xf.cell 1 rfl, xf.cell 2 rfl, xf.cell 3 rfl, xf.cell 4 rfl, (HC.out _ hB).1, (HC.out _ hB).2.1, (HC.out _ hB).2.2.1, (HC.out _ hB).2.2.2⟩
                clear hK K
                try simp only [Act.put, List.getElem_toArray, List.getElem_cons_zero, List.getElem_cons_succ, List.setIfInBounds_toArray, List.set_cons_zero, List.set_cons_succ]
                generalize Vc.heap.size = gz at *
                refine wpAnyH_ready (rs := [10]) (by kernel_rfl) (by simp) ?_
                refine AllReadyH.cons rfl (fun K hK => ?_) AllReadyH.nil
                have z0 := xb.cell 0 rfl
                have y0 := xb.frozen 0
                have z1 := xb.cell 1 rfl
                have y1 := xb.frozen 1
                have z2 := xb.cell 2 rfl
                have y2 := xb.frozen 2
                have z3 := xb.cell 3 rfl
                have y3 := xb.frozen 3
                have z4 := xb.cell 4 rfl
                have y4 := xb.frozen 4
                go_simp
                clear z0 y0 z1 y1 z2 y2 z3 y3 z4 y4
                replace xf := (((((xf.other nxf 0 (.string a.b0)).other nxf 1 (.string a.b1)).other nxf 2 (.int .i64 a.e0)).other nxf 3 (.int .i64 a.e1)).other nxf 4 (.int .i64 a.lim))
                replace xa := (((((xa.other nxa 0 (.string a.b0)).other nxa 1 (.string a.b1)).other nxa 2 (.int .i64 a.e0)).other nxa 3 (.int .i64 a.e1)).other nxa 4 (.int .i64 a.lim))
                replace xb : Box 25 (((((Vz.setCell ⟨gz, 0, none⟩ (.string a.b0)).setCell ⟨gz, 1, none⟩ (.string a.b1)).setCell ⟨gz, 2, none⟩ (.int .i64 a.e0)).setCell ⟨gz, 3, none⟩ (.int .i64 a.e1)).setCell ⟨gz, 4, none⟩ (.int .i64 a.lim)) gz [.string a.b0, .string a.b1, .int .i64 a.e0, .int .i64 a.e1, .int .i64 a.lim] := (((((xb.set 0 (.string a.b0)).set 1 (.string a.b1)).set 2 (.int .i64 a.e0)).set 3 (.int .i64 a.e1)).set 4 (.int .i64 a.lim))
                replace hB : Below W.heap.size W (((((Vz.setCell ⟨gz, 0, none⟩ (.string a.b0)).setCell ⟨gz, 1, none⟩ (.string a.b1)).setCell ⟨gz, 2, none⟩ (.int .i64 a.e0)).setCell ⟨gz, 3, none⟩ (.int .i64 a.e1)).setCell ⟨gz, 4, none⟩ (.int .i64 a.lim)) := (((((hB.setCell hgz _).setCell hgz _).setCell hgz _).setCell hgz _).setCell hgz _)
                generalize (((((Vz.setCell ⟨gz, 0, none⟩ (.string a.b0)).setCell ⟨gz, 1, none⟩ (.string a.b1)).setCell ⟨gz, 2, none⟩ (.int .i64 a.e0)).setCell ⟨gz, 3, none⟩ (.int .i64 a.e1)).setCell ⟨gz, 4, none⟩ (.int .i64 a.lim)) = Vn at *
                clear hHeld
                refine hK.out _ _ ?_ (fun hHeld => ?_)
                · exact ⟨xf.cell 0 rfl, xf.cell 1 rfl, xf.cell 2 rfl, xf.cell 3 rfl, xf.cell 4 rfl, (HC.out _ hB).1, (HC.out _ hB).2.1, (HC.out _ hB).2.2.1, (HC.out _ hB).2.2.2⟩
                clear hK K
                try simp only [Act.put, List.getElem_toArray, List.getElem_cons_zero, List.getElem_cons_succ, List.setIfInBounds_toArray, List.set_cons_zero, List.set_cons_succ]
                refine wpAnyH_take (i := 11) (v := ?_) rfl (by kernel_rfl) (by kernel_rfl) (by kernel_rfl) (fun _ _ _ h => h) (Or.inl ⟨by rfl, ?_⟩) (by assumption) ?_
                rotate_left
                · intro w hSw; (try dsimp only at hSw); go_simp; try with_reducible rfl
                try simp only [Act.put, List.getElem_toArray, List.getElem_cons_zero, List.getElem_cons_succ, List.setIfInBounds_toArray, List.set_cons_zero, List.set_cons_succ]
                refine wpAnyH_done (by kernel_rfl) ?_ _
                have xf0 := xf.cell 0 rfl
                have xf1 := xf.cell 1 rfl
                have xf2 := xf.cell 2 rfl
                have xf3 := xf.cell 3 rfl
                have xf4 := xf.cell 4 rfl
                have xa0 := xa.cell 0 rfl
                have xa1 := xa.cell 1 rfl
                have xa2 := xa.cell 2 rfl
                have xa3 := xa.cell 3 rfl
                have xa4 := xa.cell 4 rfl
                go_wp2
                go_ret
                exact ⟨rfl, hB⟩
              · go_simp
                have xb := Box.new 25 Vd [.string ⟨#[]⟩, .string ⟨#[]⟩, .int .i64 0, .int .i64 0, .int .i64 0]
                have hgz : W.heap.size ≤ Vd.heap.size := hB.size
                have nxf : Vd.heap.size ≠ W.heap.size := by have := xf.lt; omega
                replace xf := xf.alloc (.cells #[.string ⟨#[]⟩, .string ⟨#[]⟩, .int .i64 0, .int .i64 0, .int .i64 0] 25)
                have nxa : Vd.heap.size ≠ gA := by have := xa.lt; omega
                replace xa := xa.alloc (.cells #[.string ⟨#[]⟩, .string ⟨#[]⟩, .int .i64 0, .int .i64 0, .int .i64 0] 25)
                replace hB := hB.alloc hB.size (.cells #[.string ⟨#[]⟩, .string ⟨#[]⟩, .int .i64 0, .int .i64 0, .int .i64 0] 25)
                generalize Vd.alloc (.cells #[.string ⟨#[]⟩, .string ⟨#[]⟩, .int .i64 0, .int .i64 0, .int .i64 0] 25) = Va at *
                clear hHeld
                refine hK.out _ _ ?_ (fun hHeld => ?_)
                · exact ⟨xf.cell 0 rfl, xf.cell 1 rfl, xf.cell 2 rfl, xf.cell 3 rfl, xf.cell 4 rfl, (HC.out _ hB).1, (HC.out _ hB).2.1, (HC.out _ hB).2.2.1, (HC.out _ hB).2.2.2⟩
                clear hK K
                try simp only [Act.put, List.getElem_toArray, List.getElem_cons_zero, List.getElem_cons_succ, List.setIfInBounds_toArray, List.set_cons_zero, List.set_cons_succ]
                refine wpAnyH_ready (rs := [5]) (by kernel_rfl) (by simp) ?_
                refine AllReadyH.cons rfl (fun K hK => ?_) AllReadyH.nil
                go_simp
                refine (TD.out _).mono ?_
                rintro e Vz ⟨rfl, hh⟩
                replace hB := below_seq hB hh
                replace xf := xf.seq hh
                replace xa := xa.seq hh
                replace xb := xb.seq hh
                clear hHeld
                refine hK.out _ _ ?_ (fun hHeld => ?_)
                · exact ⟨xf.cell 0 rfl, xf.cell 1 rfl, xf.cell 2 rfl, xf.cell 3 rfl, xf.cell 4 rfl, (HC.out _ hB).1, (HC.out _ hB).2.1, (HC.out _ hB).2.2.1, (HC.out _ hB).2.2.2⟩
                clear hK K
                try simp only [Act.put, List.getElem_toArray, List.getElem_cons_zero, List.getElem_cons_succ, List.setIfInBounds_toArray, List.set_cons_zero, List.set_cons_succ]
                refine wpAnyH_take (i := 6) (v := ?_) rfl (by kernel_rfl) (by kernel_rfl) (by kernel_rfl) (fun _ _ _ h => h) (Or.inl ⟨by rfl, ?_⟩) (by assumption) ?_
                rotate_left
                · intro w hSw; (try dsimp only at hSw); go_simp; try with_reducible rfl
                try simp only [Act.put, List.getElem_toArray, List.getElem_cons_zero, List.getElem_cons_succ, List.setIfInBounds_toArray, List.set_cons_zero, List.set_cons_succ]
                refine wpAnyH_take (i := 7) (v := ?_) rfl (by kernel_rfl) (by kernel_rfl) (by kernel_rfl) (fun _ _ _ h => h) (Or.inl ⟨by rfl, ?_⟩) (by assumption) ?_
                rotate_left
                · intro w hSw; (try dsimp only at hSw); go_simp; try with_reducible rfl
                try simp only [Act.put, List.getElem_toArray, List.getElem_cons_zero, List.getElem_cons_succ, List.setIfInBounds_toArray, List.set_cons_zero, List.set_cons_succ]
                refine wpAnyH_take (i := 8) (v := ?_) rfl (by kernel_rfl) (by kernel_rfl) (by kernel_rfl) (fun _ _ _ h => h) (Or.inl ⟨by rfl, ?_⟩) (by assumption) ?_
                rotate_left
                · intro w hSw; (try dsimp only at hSw); go_simp; try with_reducible rfl
                try simp only [Act.put, List.getElem_toArray, List.getElem_cons_zero, List.getElem_cons_succ, List.setIfInBounds_toArray, List.set_cons_zero, List.set_cons_succ]
                generalize Vd.heap.size = gz at *
                refine wpAnyH_ready (rs := [10]) (by kernel_rfl) (by simp) ?_
                refine AllReadyH.cons rfl (fun K hK => ?_) AllReadyH.nil
                have z0 := xb.cell 0 rfl
                have y0 := xb.frozen 0
                have z1 := xb.cell 1 rfl
                have y1 := xb.frozen 1
                have z2 := xb.cell 2 rfl
                have y2 := xb.frozen 2
                have z3 := xb.cell 3 rfl
                have y3 := xb.frozen 3
                have z4 := xb.cell 4 rfl
                have y4 := xb.frozen 4
                go_simp
                clear z0 y0 z1 y1 z2 y2 z3 y3 z4 y4
                replace xf := (((((xf.other nxf 0 (.string a.b0)).other nxf 1 (.string a.b1)).other nxf 2 (.int .i64 a.e0)).other nxf 3 (.int .i64 a.e1)).other nxf 4 (.int .i64 a.lim))
                replace xa := (((((xa.other nxa 0 (.string a.b0)).other nxa 1 (.string a.b1)).other nxa 2 (.int .i64 a.e0)).other nxa 3 (.int .i64 a.e1)).other nxa 4 (.int .i64 a.lim))
                replace xb : Box 25 (((((Vz.setCell ⟨gz, 0, none⟩ (.string a.b0)).setCell ⟨gz, 1, none⟩ (.string a.b1)).setCell ⟨gz, 2, none⟩ (.int .i64 a.e0)).setCell ⟨gz, 3, none⟩ (.int .i64 a.e1)).setCell ⟨gz, 4, none⟩ (.int .i64 a.lim)) gz [.string a.b0, .string a.b1, .int .i64 a.e0, .int .i64 a.e1, .int .i64 a.lim] := (((((xb.set 0 (.string a.b0)).set 1 (.string a.b1)).set 2 (.int .i64 a.e0)).set 3 (.int .i64 a.e1)).set 4 (.int .i64 a.lim))
                replace hB : Below W.heap.size W (((((Vz.setCell ⟨gz, 0, none⟩ (.string a.b0)).setCell ⟨gz, 1, none⟩ (.string a.b1)).setCell ⟨gz, 2, none⟩ (.int .i64 a.e0)).setCell ⟨gz, 3, none⟩ (.int .i64 a.e1)).setCell ⟨gz, 4, none⟩ (.int .i64 a.lim)) := (((((hB.setCell hgz _).setCell hgz _).setCell hgz _).setCell hgz _).setCell hgz _)
                generalize (((((Vz.setCell ⟨gz, 0, none⟩ (.string a.b0)).setCell ⟨gz, 1, none⟩ (.string a.b1)).setCell ⟨gz, 2, none⟩ (.int .i64 a.e0)).setCell ⟨gz, 3, none⟩ (.int .i64 a.e1)).setCell ⟨gz, 4, none⟩ (.int .i64 a.lim)) = Vn at *
                clear hHeld
                refine hK.out _ _ ?_ (fun hHeld => ?_)
                · exact ⟨xf.cell 0 rfl, xf.cell 1 rfl, xf.cell 2 rfl, xf.cell 3 rfl, xf.cell 4 rfl, (HC.out _ hB).1, (HC.out _ hB).2.1, (HC.out _ hB).2.2.1, (HC.out _ hB).2.2.2⟩
                clear hK K
                try simp only [Act.put, List.getElem_toArray, List.getElem_cons_zero, List.getElem_cons_succ, List.setIfInBounds_toArray, List.set_cons_zero, List.set_cons_succ]
                refine wpAnyH_take (i := 11) (v := ?_) rfl (by kernel_rfl) (by kernel_rfl) (by kernel_rfl) (fun _ _ _ h => h) (Or.inl ⟨by rfl, ?_⟩) (by assumption) ?_
                rotate_left
                · intro w hSw; (try dsimp only at hSw); go_simp; try with_reducible rfl
                try simp only [Act.put, List.getElem_toArray, List.getElem_cons_zero, List.getElem_cons_succ, List.setIfInBounds_toArray, List.set_cons_zero, List.set_cons_succ]
                refine wpAnyH_done (by kernel_rfl) ?_ _
                have xf0 := xf.cell 0 rfl
                have xf1 := xf.cell 1 rfl
                have xf2 := xf.cell 2 rfl
                have xf3 := xf.cell 3 rfl
                have xf4 := xf.cell 4 rfl
                have xa0 := xa.cell 0 rfl
                have xa1 := xa.cell 1 rfl
                have xa2 := xa.cell 2 rfl
                have xa3 := xa.cell 3 rfl
                have xa4 := xa.cell 4 rfl
                go_wp2
                go_ret
                exact ⟨rfl, hB⟩
          · obtain rfl : k = l.length := by omega
            have HS := HR.symm.trans (HP.out.trans play_end)
            simp only [Prod.mk.injEq] at HS
            obtain ⟨rfl, rfl, rfl⟩ := HS
            clear HP HR T1
            have xf0 := xf.cell 0 rfl
            have xf1 := xf.cell 1 rfl
            have xf2 := xf.cell 2 rfl
            have xf3 := xf.cell 3 rfl
            have xf4 := xf.cell 4 rfl
            have xa0 := xa.cell 0 rfl
            have xa1 := xa.cell 1 rfl
            have xa2 := xa.cell 2 rfl
            have xa3 := xa.cell 3 rfl
            have xa4 := xa.cell 4 rfl
            go_wp2
            go_ret
            exact ⟨rfl, hB⟩
      · have b2 : ¬ cut < (l.length : Int) := by omega
        have b1 : 0 ≤ cut := by omega
        have hB : Below W.heap.size W (W.alloc (.cells #[.string f.b0, .string f.b1, .int .i64 f.e0, .int .i64 f.e1, .int .i64 f.lim] 25)) := (Below.refl _ _).alloc (Nat.le_refl _) _
        have xf := Box.new 25 W [.string f.b0, .string f.b1, .int .i64 f.e0, .int .i64 f.e1, .int .i64 f.lim]
        go_enter Try.func10, Try.ntmps10
        go_wp2_with fail
        refine (TB.out _ (hl.seq hB)).mono ?_
        rintro e W1 ⟨rfl, k1⟩
        replace hB := below_seq hB k1
        replace xf := xf.seq k1
        clear k1
        have xf0 := xf.cell 0 rfl
        have xf1 := xf.cell 1 rfl
        have xf2 := xf.cell 2 rfl
        have xf3 := xf.cell 3 rfl
        have xf4 := xf.cell 4 rfl
        go_wp2_with fail
        refine (shown04 _).mono ?_
        rintro e W2 ⟨rfl, k2⟩
        replace hB := below_seq hB k2
        replace xf := xf.seq k2
        clear k2
        clear xf0 xf1 xf2 xf3 xf4
        have xf0 := xf.cell 0 rfl
        have xf1 := xf.cell 1 rfl
        have xf2 := xf.cell 2 rfl
        have xf3 := xf.cell 3 rfl
        have xf4 := xf.cell 4 rfl
        go_wp2_with fail
        refine (T1.out _ (hl.seq hB)).mono ?_
        rintro e W3 ⟨rfl, k3⟩
        replace hB := below_seq hB k3
        replace xf := xf.seq k3
        clear k3
        clear xf0 xf1 xf2 xf3 xf4
        have xf0 := xf.cell 0 rfl
        have xf1 := xf.cell 1 rfl
        have xf2 := xf.cell 2 rfl
        have xf3 := xf.cell 3 rfl
        have xf4 := xf.cell 4 rfl
        have nfa : W.heap.size ≠ W3.heap.size := Nat.ne_of_lt xf.lt
        have xa := Box.new 25 W3 [.string a.b0, .string a.b1, .int .i64 a.e0, .int .i64 a.e1, .int .i64 a.lim]
        replace xf := xf.alloc (.cells #[.string a.b0, .string a.b1, .int .i64 a.e0, .int .i64 a.e1, .int .i64 a.lim] 25)
        replace hB := hB.alloc hB.size (.cells #[.string a.b0, .string a.b1, .int .i64 a.e0, .int .i64 a.e1, .int .i64 a.lim] 25)
        clear xf0 xf1 xf2 xf3 xf4
        have xf0 := xf.cell 0 rfl
        have xf1 := xf.cell 1 rfl
        have xf2 := xf.cell 2 rfl
        have xf3 := xf.cell 3 rfl
        have xf4 := xf.cell 4 rfl
        have xa0 := xa.cell 0 rfl
        have xa1 := xa.cell 1 rfl
        have xa2 := xa.cell 2 rfl
        have xa3 := xa.cell 3 rfl
        have xa4 := xa.cell 4 rfl
        replace hl := Lib.hid hl
        go_wp2_with fail
        generalize W3.alloc (.cells #[.string a.b0, .string a.b1, .int .i64 a.e0, .int .i64 a.e1, .int .i64 a.lim] 25) = V at *
        clear xf0 xa0 xf1 xa1 xf2 xa2 xf3 xa3 xf4 xa4
        generalize W3.heap.size = gA at *
        go_loopw [15] (fun i w => ∃ (k : Nat) (g : Fl), k ≤ l.length ∧ i = .int .i64 k ∧ g.fit ∧ playR f l cut m = playG cut m (l.drop k) g k ∧ Box 25 w W.heap.size [.string g.b0, .string g.b1, .int .i64 g.e0, .int .i64 g.e1, .int .i64 g.lim] ∧ Box 25 w gA [.string a.b0, .string a.b1, .int .i64 a.e0, .int .i64 a.e1, .int .i64 a.lim] ∧ Below W.heap.size W w)
          (fun i _ => l.length - (intOf i).toNat)
        case atStart => exact ⟨0, f, Nat.zero_le _, rfl, hfit, rfl, xf, xa, hB⟩
        case round =>
          clear xf xa hB
          obtain ⟨k, g, hk, rfl, hgk, HP, xf, xa, hB⟩ := hrel
          replace HP := Lib.hid HP
          by_cases hlt : k < l.length
          · obtain ⟨o, ho⟩ : ∃ o, l[k]? = some o := ⟨_, List.getElem?_eq_getElem hlt⟩
            obtain ⟨gL, off, rfl, HC⟩ := HOP.out k o ho
            have hok := hlo o (List.mem_of_getElem? ho)
            replace HC := Lib.hid HC
            have hkc := hnc.out k hlt
            have i0 : (0 : Int) ≤ (k : Int) := by omega
            have i1 : (k : Int) < (l.length : Int) := by omega
            by_cases he : doErr g o = 0
            · have HS := Lib.hid (HP.out.trans (play_step ho hkc he))
              have hgn := doF_fit hgk o
              have TD := Lib.hid (fun (V : World) => (show Calls Try.prog 29 #[.agg #[.string g.b0, .string g.b1, .int .i64 g.e0, .int .i64 g.e1, .int .i64 g.lim], .agg #[.int .i64 o.kind, .int .i64 o.bank, .int .i64 o.q, .string o.d]] V fun e' W' => e' = .returned (.tuple #[.agg #[.string (doF g o).b0, .string (doF g o).b1, .int .i64 (doF g o).e0, .int .i64 (doF g o).e1, .int .i64 (doF g o).lim], .int .i64 0]) ∧ Below V.heap.size V W' from by have h := own04Do g o V hgk hok; rwa [he] at h))
              clear he ho HP
              generalize doF g o = g' at *
              go_wp2_with fail
              generalize hwr : wr = V at *
              clear hwr
              replace hB := hB.drew
              replace xf := xf.drew
              replace xa := xa.drew
              refine wp_region_held_drew (S := fun w' => w'.cell? ⟨W.heap.size, 0, none⟩ = some (.string g.b0) ∧ w'.cell? ⟨W.heap.size, 1, none⟩ = some (.string g.b1) ∧ w'.cell? ⟨W.heap.size, 2, none⟩ = some (.int .i64 g.e0) ∧ w'.cell? ⟨W.heap.size, 3, none⟩ = some (.int .i64 g.e1) ∧ w'.cell? ⟨W.heap.size, 4, none⟩ = some (.int .i64 g.lim) ∧ w'.cell? ⟨gL, off + k * 4, none⟩ = some (.int .i64 o.kind) ∧ w'.cell? ⟨gL, off + k * 4 + 1, none⟩ = some (.int .i64 o.bank) ∧ w'.cell? ⟨gL, off + k * 4 + 2, none⟩ = some (.int .i64 o.q) ∧ w'.cell? ⟨gL, off + k * 4 + 3, none⟩ = some (.string o.d)) (by kernel_rfl) ?_ (fun hHeld => ?_)
              · exact ⟨xf.cell 0 rfl, xf.cell 1 rfl, xf.cell 2 rfl, xf.cell 3 rfl, xf.cell 4 rfl, (HC.out _ hB).1, (HC.out _ hB).2.1, (HC.out _ hB).2.2.1, (HC.out _ hB).2.2.2⟩
              generalize V.drew = Vd at *
              refine wpAnyH_take (i := 0) (v := ?_) rfl (by kernel_rfl) (by kernel_rfl) (by kernel_rfl) (fun _ _ _ h => h) (Or.inl ⟨by rfl, ?_⟩) (by assumption) ?_
              rotate_left
              · intro w hSw; (try dsimp only at hSw); go_simp; try with_reducible rfl
              try simp only [Act.put, List.getElem_toArray, List.getElem_cons_zero, List.getElem_cons_succ, List.setIfInBounds_toArray, List.set_cons_zero, List.set_cons_succ]
              refine wpAnyH_take (i := 1) (v := ?_) rfl (by kernel_rfl) (by kernel_rfl) (by kernel_rfl) (fun _ _ _ h => h) (Or.inl ⟨by rfl, ?_⟩) (by assumption) ?_
              rotate_left
              · intro w hSw; (try dsimp only at hSw); go_simp; try with_reducible rfl
              try simp only [Act.put, List.getElem_toArray, List.getElem_cons_zero, List.getElem_cons_succ, List.setIfInBounds_toArray, List.set_cons_zero, List.set_cons_succ]
              refine wpAnyH_take (i := 2) (v := ?_) rfl (by kernel_rfl) (by kernel_rfl) (by kernel_rfl) (fun _ _ _ h => h) (Or.inl ⟨by rfl, ?_⟩) (by assumption) ?_
              rotate_left
              · intro w hSw; (try dsimp only at hSw); go_simp; try with_reducible rfl
              try simp only [Act.put, List.getElem_toArray, List.getElem_cons_zero, List.getElem_cons_succ, List.setIfInBounds_toArray, List.set_cons_zero, List.set_cons_succ]
              refine wpAnyH_take (i := 3) (v := ?_) rfl (by kernel_rfl) (by kernel_rfl) (by kernel_rfl) (fun _ _ _ h => h) (Or.inl ⟨by rfl, ?_⟩) (by assumption) ?_
              rotate_left
              · intro w hSw; (try dsimp only at hSw); go_simp; try with_reducible rfl
              try simp only [Act.put, List.getElem_toArray, List.getElem_cons_zero, List.getElem_cons_succ, List.setIfInBounds_toArray, List.set_cons_zero, List.set_cons_succ]
              refine wpAnyH_take (i := 4) (v := ?_) rfl (by kernel_rfl) (by kernel_rfl) (by kernel_rfl) (fun _ _ _ h => h) (Or.inl ⟨by rfl, ?_⟩) (by assumption) ?_
              rotate_left
              · intro w hSw; (try dsimp only at hSw); go_simp; try with_reducible rfl
              try simp only [Act.put, List.getElem_toArray, List.getElem_cons_zero, List.getElem_cons_succ, List.setIfInBounds_toArray, List.set_cons_zero, List.set_cons_succ]
              refine wpAnyH_ready (rs := [5, 9]) (by kernel_rfl) (by simp) ?_
              refine AllReadyH.cons rfl (fun K hK => ?_) (AllReadyH.cons rfl (fun K hK => ?_) AllReadyH.nil)
              · go_simp
                refine (TD.out _).mono ?_
                rintro e Vc ⟨rfl, hh⟩
                replace hB := below_seq hB hh
                replace xf := xf.seq hh
                replace xa := xa.seq hh
                clear hHeld
                refine hK.out _ _ ?_ (fun hHeld => ?_)
                · exact ⟨xf.cell 0 rfl, xf.cell 1 rfl, xf.cell 2 rfl, xf.cell 3 rfl, xf.cell 4 rfl, (HC.out _ hB).1, (HC.out _ hB).2.1, (HC.out _ hB).2.2.1, (HC.out _ hB).2.2.2⟩
                clear hK K
                try simp only [Act.put, List.getElem_toArray, List.getElem_cons_zero, List.getElem_cons_succ, List.setIfInBounds_toArray, List.set_cons_zero, List.set_cons_succ]
                refine wpAnyH_take (i := 6) (v := ?_) rfl (by kernel_rfl) (by kernel_rfl) (by kernel_rfl) (fun _ _ _ h => h) (Or.inl ⟨by rfl, ?_⟩) (by assumption) ?_
                rotate_left
                · intro w hSw; (try dsimp only at hSw); go_simp; try with_reducible rfl
                try simp only [Act.put, List.getElem_toArray, List.getElem_cons_zero, List.getElem_cons_succ, List.setIfInBounds_toArray, List.set_cons_zero, List.set_cons_succ]
                refine wpAnyH_take (i := 7) (v := ?_) rfl (by kernel_rfl) (by kernel_rfl) (by kernel_rfl) (fun _ _ _ h => h) (Or.inl ⟨by rfl, ?_⟩) (by assumption) ?_
                rotate_left
                · intro w hSw; (try dsimp only at hSw); go_simp; try with_reducible rfl
                try simp only [Act.put, List.getElem_toArray, List.getElem_cons_zero, List.getElem_cons_succ, List.setIfInBounds_toArray, List.set_cons_zero, List.set_cons_succ]
                refine wpAnyH_take (i := 8) (v := ?_) rfl (by kernel_rfl) (by kernel_rfl) (by kernel_rfl) (fun _ _ _ h => h) (Or.inl ⟨by rfl, ?_⟩) (by assumption) ?_
                rotate_left
                · intro w hSw; (try dsimp only at hSw); go_simp; try with_reducible rfl
                try simp only [Act.put, List.getElem_toArray, List.getElem_cons_zero, List.getElem_cons_succ, List.setIfInBounds_toArray, List.set_cons_zero, List.set_cons_succ]
                refine wpAnyH_ready (rs := [9]) (by kernel_rfl) (by simp) ?_
                refine AllReadyH.cons rfl (fun K hK => ?_) AllReadyH.nil
                go_simp
                have xb := Box.new 25 Vc [.string ⟨#[]⟩, .string ⟨#[]⟩, .int .i64 0, .int .i64 0, .int .i64 0]
                have hgz : W.heap.size ≤ Vc.heap.size := hB.size
                have nxf : Vc.heap.size ≠ W.heap.size := by have := xf.lt; omega
                replace xf := xf.alloc (.cells #[.string ⟨#[]⟩, .string ⟨#[]⟩, .int .i64 0, .int .i64 0, .int .i64 0] 25)
                have nxa : Vc.heap.size ≠ gA := by have := xa.lt; omega
                replace xa := xa.alloc (.cells #[.string ⟨#[]⟩, .string ⟨#[]⟩, .int .i64 0, .int .i64 0, .int .i64 0] 25)
                replace hB := hB.alloc hB.size (.cells #[.string ⟨#[]⟩, .string ⟨#[]⟩, .int .i64 0, .int .i64 0, .int .i64 0] 25)
                generalize Vc.alloc (.cells #[.string ⟨#[]⟩, .string ⟨#[]⟩, .int .i64 0, .int .i64 0, .int .i64 0] 25) = Vz at *
                clear hHeld
                refine hK.out _ _ ?_ (fun hHeld => ?_)
                · exact ⟨xf.cell 0 rfl, xf.cell 1 rfl, xf.cell 2 rfl, xf.cell 3 rfl, xf.cell 4 rfl, (HC.out _ hB).1, (HC.out _ hB).2.1, (HC.out _ hB).2.2.1, (HC.out _ hB).2.2.2⟩
                clear hK K
                try simp only [Act.put, List.getElem_toArray, List.getElem_cons_zero, List.getElem_cons_succ, List.setIfInBounds_toArray, List.set_cons_zero, List.set_cons_succ]
                generalize Vc.heap.size = gz at *
                refine wpAnyH_ready (rs := [10]) (by kernel_rfl) (by simp) ?_
                refine AllReadyH.cons rfl (fun K hK => ?_) AllReadyH.nil
                have z0 := xb.cell 0 rfl
                have y0 := xb.frozen 0
                have z1 := xb.cell 1 rfl
                have y1 := xb.frozen 1
                have z2 := xb.cell 2 rfl
                have y2 := xb.frozen 2
                have z3 := xb.cell 3 rfl
                have y3 := xb.frozen 3
                have z4 := xb.cell 4 rfl
                have y4 := xb.frozen 4
                go_simp
                clear z0 y0 z1 y1 z2 y2 z3 y3 z4 y4
                replace xf := (((((xf.other nxf 0 (.string g'.b0)).other nxf 1 (.string g'.b1)).other nxf 2 (.int .i64 g'.e0)).other nxf 3 (.int .i64 g'.e1)).other nxf 4 (.int .i64 g'.lim))
                replace xa := (((((xa.other nxa 0 (.string g'.b0)).other nxa 1 (.string g'.b1)).other nxa 2 (.int .i64 g'.e0)).other nxa 3 (.int .i64 g'.e1)).other nxa 4 (.int .i64 g'.lim))
                replace xb : Box 25 (((((Vz.setCell ⟨gz, 0, none⟩ (.string g'.b0)).setCell ⟨gz, 1, none⟩ (.string g'.b1)).setCell ⟨gz, 2, none⟩ (.int .i64 g'.e0)).setCell ⟨gz, 3, none⟩ (.int .i64 g'.e1)).setCell ⟨gz, 4, none⟩ (.int .i64 g'.lim)) gz [.string g'.b0, .string g'.b1, .int .i64 g'.e0, .int .i64 g'.e1, .int .i64 g'.lim] := (((((xb.set 0 (.string g'.b0)).set 1 (.string g'.b1)).set 2 (.int .i64 g'.e0)).set 3 (.int .i64 g'.e1)).set 4 (.int .i64 g'.lim))
                replace hB : Below W.heap.size W (((((Vz.setCell ⟨gz, 0, none⟩ (.string g'.b0)).setCell ⟨gz, 1, none⟩ (.string g'.b1)).setCell ⟨gz, 2, none⟩ (.int .i64 g'.e0)).setCell ⟨gz, 3, none⟩ (.int .i64 g'.e1)).setCell ⟨gz, 4, none⟩ (.int .i64 g'.lim)) := (((((hB.setCell hgz _).setCell hgz _).setCell hgz _).setCell hgz _).setCell hgz _)
                generalize (((((Vz.setCell ⟨gz, 0, none⟩ (.string g'.b0)).setCell ⟨gz, 1, none⟩ (.string g'.b1)).setCell ⟨gz, 2, none⟩ (.int .i64 g'.e0)).setCell ⟨gz, 3, none⟩ (.int .i64 g'.e1)).setCell ⟨gz, 4, none⟩ (.int .i64 g'.lim)) = Vn at *
                clear hHeld
                refine hK.out _ _ ?_ (fun hHeld => ?_)
                · exact ⟨xf.cell 0 rfl, xf.cell 1 rfl, xf.cell 2 rfl, xf.cell 3 rfl, xf.cell 4 rfl, (HC.out _ hB).1, (HC.out _ hB).2.1, (HC.out _ hB).2.2.1, (HC.out _ hB).2.2.2⟩
                clear hK K
                try simp only [Act.put, List.getElem_toArray, List.getElem_cons_zero, List.getElem_cons_succ, List.setIfInBounds_toArray, List.set_cons_zero, List.set_cons_succ]
                refine wpAnyH_take (i := 11) (v := ?_) rfl (by kernel_rfl) (by kernel_rfl) (by kernel_rfl) (fun _ _ _ h => h) (Or.inl ⟨by rfl, ?_⟩) (by assumption) ?_
                rotate_left
                · intro w hSw; (try dsimp only at hSw); go_simp; try with_reducible rfl
                try simp only [Act.put, List.getElem_toArray, List.getElem_cons_zero, List.getElem_cons_succ, List.setIfInBounds_toArray, List.set_cons_zero, List.set_cons_succ]
                refine wpAnyH_done (by kernel_rfl) ?_ _
                have xf0 := xf.cell 0 rfl
                have xf1 := xf.cell 1 rfl
                have xf2 := xf.cell 2 rfl
                have xf3 := xf.cell 3 rfl
                have xf4 := xf.cell 4 rfl
                have xb0 := xb.cell 0 rfl
                have xb1 := xb.cell 1 rfl
                have xb2 := xb.cell 2 rfl
                have xb3 := xb.cell 3 rfl
                have xb4 := xb.cell 4 rfl
                have xz0 := xf.frozen 0
                have xz1 := xf.frozen 1
                have xz2 := xf.frozen 2
                have xz3 := xf.frozen 3
                have xz4 := xf.frozen 4
                go_wp2
                go_roundw
                case rel => exact ⟨k + 1, g', by omega, by go_num, hgn, HS.out, ((((xf.set 0 _).set 1 _).set 2 _).set 3 _).set 4 _, ((((xa.other nfa 0 _).other nfa 1 _).other nfa 2 _).other nfa 3 _).other nfa 4 _, ((((hB.setCell (Nat.le_refl _) _).setCell (Nat.le_refl _) _).setCell (Nat.le_refl _) _).setCell (Nat.le_refl _) _).setCell (Nat.le_refl _) _⟩
                case measure => simp [intOf]; omega
              · go_simp
                have xb := Box.new 25 Vd [.string ⟨#[]⟩, .string ⟨#[]⟩, .int .i64 0, .int .i64 0, .int .i64 0]
                have hgz : W.heap.size ≤ Vd.heap.size := hB.size
                have nxf : Vd.heap.size ≠ W.heap.size := by have := xf.lt; omega
                replace xf := xf.alloc (.cells #[.string ⟨#[]⟩, .string ⟨#[]⟩, .int .i64 0, .int .i64 0, .int .i64 0] 25)
                have nxa : Vd.heap.size ≠ gA := by have := xa.lt; omega
                replace xa := xa.alloc (.cells #[.string ⟨#[]⟩, .string ⟨#[]⟩, .int .i64 0, .int .i64 0, .int .i64 0] 25)
                replace hB := hB.alloc hB.size (.cells #[.string ⟨#[]⟩, .string ⟨#[]⟩, .int .i64 0, .int .i64 0, .int .i64 0] 25)
                generalize Vd.alloc (.cells #[.string ⟨#[]⟩, .string ⟨#[]⟩, .int .i64 0, .int .i64 0, .int .i64 0] 25) = Va at *
                clear hHeld
                refine hK.out _ _ ?_ (fun hHeld => ?_)
                · exact ⟨xf.cell 0 rfl, xf.cell 1 rfl, xf.cell 2 rfl, xf.cell 3 rfl, xf.cell 4 rfl, (HC.out _ hB).1, (HC.out _ hB).2.1, (HC.out _ hB).2.2.1, (HC.out _ hB).2.2.2⟩
                clear hK K
                try simp only [Act.put, List.getElem_toArray, List.getElem_cons_zero, List.getElem_cons_succ, List.setIfInBounds_toArray, List.set_cons_zero, List.set_cons_succ]
                refine wpAnyH_ready (rs := [5]) (by kernel_rfl) (by simp) ?_
                refine AllReadyH.cons rfl (fun K hK => ?_) AllReadyH.nil
                go_simp
                refine (TD.out _).mono ?_
                rintro e Vz ⟨rfl, hh⟩
                replace hB := below_seq hB hh
                replace xf := xf.seq hh
                replace xa := xa.seq hh
                replace xb := xb.seq hh
                clear hHeld
                refine hK.out _ _ ?_ (fun hHeld => ?_)
                · exact ⟨xf.cell 0 rfl, xf.cell 1 rfl, xf.cell 2 rfl, xf.cell 3 rfl, xf.cell 4 rfl, (HC.out _ hB).1, (HC.out _ hB).2.1, (HC.out _ hB).2.2.1, (HC.out _ hB).2.2.2⟩
                clear hK K
                try simp only [Act.put, List.getElem_toArray, List.getElem_cons_zero, List.getElem_cons_succ, List.setIfInBounds_toArray, List.set_cons_zero, List.set_cons_succ]
                refine wpAnyH_take (i := 6) (v := ?_) rfl (by kernel_rfl) (by kernel_rfl) (by kernel_rfl) (fun _ _ _ h => h) (Or.inl ⟨by rfl, ?_⟩) (by assumption) ?_
                rotate_left
                · intro w hSw; (try dsimp only at hSw); go_simp; try with_reducible rfl
                try simp only [Act.put, List.getElem_toArray, List.getElem_cons_zero, List.getElem_cons_succ, List.setIfInBounds_toArray, List.set_cons_zero, List.set_cons_succ]
                refine wpAnyH_take (i := 7) (v := ?_) rfl (by kernel_rfl) (by kernel_rfl) (by kernel_rfl) (fun _ _ _ h => h) (Or.inl ⟨by rfl, ?_⟩) (by assumption) ?_
                rotate_left
                · intro w hSw; (try dsimp only at hSw); go_simp; try with_reducible rfl
                try simp only [Act.put, List.getElem_toArray, List.getElem_cons_zero, List.getElem_cons_succ, List.setIfInBounds_toArray, List.set_cons_zero, List.set_cons_succ]
                refine wpAnyH_take (i := 8) (v := ?_) rfl (by kernel_rfl) (by kernel_rfl) (by kernel_rfl) (fun _ _ _ h => h) (Or.inl ⟨by rfl, ?_⟩) (by assumption) ?_
                rotate_left
                · intro w hSw; (try dsimp only at hSw); go_simp; try with_reducible rfl
                try simp only [Act.put, List.getElem_toArray, List.getElem_cons_zero, List.getElem_cons_succ, List.setIfInBounds_toArray, List.set_cons_zero, List.set_cons_succ]
                generalize Vd.heap.size = gz at *
                refine wpAnyH_ready (rs := [10]) (by kernel_rfl) (by simp) ?_
                refine AllReadyH.cons rfl (fun K hK => ?_) AllReadyH.nil
                have z0 := xb.cell 0 rfl
                have y0 := xb.frozen 0
                have z1 := xb.cell 1 rfl
                have y1 := xb.frozen 1
                have z2 := xb.cell 2 rfl
                have y2 := xb.frozen 2
                have z3 := xb.cell 3 rfl
                have y3 := xb.frozen 3
                have z4 := xb.cell 4 rfl
                have y4 := xb.frozen 4
                go_simp
                clear z0 y0 z1 y1 z2 y2 z3 y3 z4 y4
                replace xf := (((((xf.other nxf 0 (.string g'.b0)).other nxf 1 (.string g'.b1)).other nxf 2 (.int .i64 g'.e0)).other nxf 3 (.int .i64 g'.e1)).other nxf 4 (.int .i64 g'.lim))
                replace xa := (((((xa.other nxa 0 (.string g'.b0)).other nxa 1 (.string g'.b1)).other nxa 2 (.int .i64 g'.e0)).other nxa 3 (.int .i64 g'.e1)).other nxa 4 (.int .i64 g'.lim))
                replace xb : Box 25 (((((Vz.setCell ⟨gz, 0, none⟩ (.string g'.b0)).setCell ⟨gz, 1, none⟩ (.string g'.b1)).setCell ⟨gz, 2, none⟩ (.int .i64 g'.e0)).setCell ⟨gz, 3, none⟩ (.int .i64 g'.e1)).setCell ⟨gz, 4, none⟩ (.int .i64 g'.lim)) gz [.string g'.b0, .string g'.b1, .int .i64 g'.e0, .int .i64 g'.e1, .int .i64 g'.lim] := (((((xb.set 0 (.string g'.b0)).set 1 (.string g'.b1)).set 2 (.int .i64 g'.e0)).set 3 (.int .i64 g'.e1)).set 4 (.int .i64 g'.lim))
                replace hB : Below W.heap.size W (((((Vz.setCell ⟨gz, 0, none⟩ (.string g'.b0)).setCell ⟨gz, 1, none⟩ (.string g'.b1)).setCell ⟨gz, 2, none⟩ (.int .i64 g'.e0)).setCell ⟨gz, 3, none⟩ (.int .i64 g'.e1)).setCell ⟨gz, 4, none⟩ (.int .i64 g'.lim)) := (((((hB.setCell hgz _).setCell hgz _).setCell hgz _).setCell hgz _).setCell hgz _)
                generalize (((((Vz.setCell ⟨gz, 0, none⟩ (.string g'.b0)).setCell ⟨gz, 1, none⟩ (.string g'.b1)).setCell ⟨gz, 2, none⟩ (.int .i64 g'.e0)).setCell ⟨gz, 3, none⟩ (.int .i64 g'.e1)).setCell ⟨gz, 4, none⟩ (.int .i64 g'.lim)) = Vn at *
                clear hHeld
                refine hK.out _ _ ?_ (fun hHeld => ?_)
                · exact ⟨xf.cell 0 rfl, xf.cell 1 rfl, xf.cell 2 rfl, xf.cell 3 rfl, xf.cell 4 rfl, (HC.out _ hB).1, (HC.out _ hB).2.1, (HC.out _ hB).2.2.1, (HC.out _ hB).2.2.2⟩
                clear hK K
                try simp only [Act.put, List.getElem_toArray, List.getElem_cons_zero, List.getElem_cons_succ, List.setIfInBounds_toArray, List.set_cons_zero, List.set_cons_succ]
                refine wpAnyH_take (i := 11) (v := ?_) rfl (by kernel_rfl) (by kernel_rfl) (by kernel_rfl) (fun _ _ _ h => h) (Or.inl ⟨by rfl, ?_⟩) (by assumption) ?_
                rotate_left
                · intro w hSw; (try dsimp only at hSw); go_simp; try with_reducible rfl
                try simp only [Act.put, List.getElem_toArray, List.getElem_cons_zero, List.getElem_cons_succ, List.setIfInBounds_toArray, List.set_cons_zero, List.set_cons_succ]
                refine wpAnyH_done (by kernel_rfl) ?_ _
                have xf0 := xf.cell 0 rfl
                have xf1 := xf.cell 1 rfl
                have xf2 := xf.cell 2 rfl
                have xf3 := xf.cell 3 rfl
                have xf4 := xf.cell 4 rfl
                have xb0 := xb.cell 0 rfl
                have xb1 := xb.cell 1 rfl
                have xb2 := xb.cell 2 rfl
                have xb3 := xb.cell 3 rfl
                have xb4 := xb.cell 4 rfl
                have xz0 := xf.frozen 0
                have xz1 := xf.frozen 1
                have xz2 := xf.frozen 2
                have xz3 := xf.frozen 3
                have xz4 := xf.frozen 4
                go_wp2
                go_roundw
                case rel => exact ⟨k + 1, g', by omega, by go_num, hgn, HS.out, ((((xf.set 0 _).set 1 _).set 2 _).set 3 _).set 4 _, ((((xa.other nfa 0 _).other nfa 1 _).other nfa 2 _).other nfa 3 _).other nfa 4 _, ((((hB.setCell (Nat.le_refl _) _).setCell (Nat.le_refl _) _).setCell (Nat.le_refl _) _).setCell (Nat.le_refl _) _).setCell (Nat.le_refl _) _⟩
                case measure => simp [intOf]; omega
            · have HS := HR.symm.trans (HP.out.trans (play_stop ho hkc he))
              simp only [Prod.mk.injEq] at HS
              obtain ⟨rfl, rfl, rfl⟩ := HS
              have hd := doF_err he
              have TD := Lib.hid (fun (V : World) => (show Calls Try.prog 29 #[.agg #[.string a.b0, .string a.b1, .int .i64 a.e0, .int .i64 a.e1, .int .i64 a.lim], .agg #[.int .i64 o.kind, .int .i64 o.bank, .int .i64 o.q, .string o.d]] V fun e' W' => e' = .returned (.tuple #[.agg #[.string a.b0, .string a.b1, .int .i64 a.e0, .int .i64 a.e1, .int .i64 a.lim], .int .i64 (doErr a o)]) ∧ Below V.heap.size V W' from by have h := own04Do a o V hgk hok; rwa [hd] at h))
              have n1 : (doErr a o != 0) = true := bne_iff_ne.2 he
              clear hd he ho HP HR T1
              generalize doErr a o = e at *
              go_wp2_with fail
              generalize hwr : wr = V at *
              clear hwr
              replace hB := hB.drew
              replace xf := xf.drew
              replace xa := xa.drew
              refine wp_region_held_drew (S := fun w' => w'.cell? ⟨W.heap.size, 0, none⟩ = some (.string a.b0) ∧ w'.cell? ⟨W.heap.size, 1, none⟩ = some (.string a.b1) ∧ w'.cell? ⟨W.heap.size, 2, none⟩ = some (.int .i64 a.e0) ∧ w'.cell? ⟨W.heap.size, 3, none⟩ = some (.int .i64 a.e1) ∧ w'.cell? ⟨W.heap.size, 4, none⟩ = some (.int .i64 a.lim) ∧ w'.cell? ⟨gL, off + n * 4, none⟩ = some (.int .i64 o.kind) ∧ w'.cell? ⟨gL, off + n * 4 + 1, none⟩ = some (.int .i64 o.bank) ∧ w'.cell? ⟨gL, off + n * 4 + 2, none⟩ = some (.int .i64 o.q) ∧ w'.cell? ⟨gL, off + n * 4 + 3, none⟩ = some (.string o.d)) (by kernel_rfl) ?_ (fun hHeld => ?_)
              · exact ⟨xf.cell 0 rfl, xf.cell 1 rfl, xf.cell 2 rfl, xf.cell 3 rfl, xf.cell 4 rfl, (HC.out _ hB).1, (HC.out _ hB).2.1, (HC.out _ hB).2.2.1, (HC.out _ hB).2.2.2⟩
              generalize V.drew = Vd at *
              refine wpAnyH_take (i := 0) (v := ?_) rfl (by kernel_rfl) (by kernel_rfl) (by kernel_rfl) (fun _ _ _ h => h) (Or.inl ⟨by rfl, ?_⟩) (by assumption) ?_
              rotate_left
              · intro w hSw; (try dsimp only at hSw); go_simp; try with_reducible rfl
              try simp only [Act.put, List.getElem_toArray, List.getElem_cons_zero, List.getElem_cons_succ, List.setIfInBounds_toArray, List.set_cons_zero, List.set_cons_succ]
              refine wpAnyH_take (i := 1) (v := ?_) rfl (by kernel_rfl) (by kernel_rfl) (by kernel_rfl) (fun _ _ _ h => h) (Or.inl ⟨by rfl, ?_⟩) (by assumption) ?_
              rotate_left
              · intro w hSw; (try dsimp only at hSw); go_simp; try with_reducible rfl
              try simp only [Act.put, List.getElem_toArray, List.getElem_cons_zero, List.getElem_cons_succ, List.setIfInBounds_toArray, List.set_cons_zero, List.set_cons_succ]
              refine wpAnyH_take (i := 2) (v := ?_) rfl (by kernel_rfl) (by kernel_rfl) (by kernel_rfl) (fun _ _ _ h => h) (Or.inl ⟨by rfl, ?_⟩) (by assumption) ?_
              rotate_left
              · intro w hSw; (try dsimp only at hSw); go_simp; try with_reducible rfl
              try simp only [Act.put, List.getElem_toArray, List.getElem_cons_zero, List.getElem_cons_succ, List.setIfInBounds_toArray, List.set_cons_zero, List.set_cons_succ]
              refine wpAnyH_take (i := 3) (v := ?_) rfl (by kernel_rfl) (by kernel_rfl) (by kernel_rfl) (fun _ _ _ h => h) (Or.inl ⟨by rfl, ?_⟩) (by assumption) ?_
              rotate_left
              · intro w hSw; (try dsimp only at hSw); go_simp; try with_reducible rfl
              try simp only [Act.put, List.getElem_toArray, List.getElem_cons_zero, List.getElem_cons_succ, List.setIfInBounds_toArray, List.set_cons_zero, List.set_cons_succ]
              refine wpAnyH_take (i := 4) (v := ?_) rfl (by kernel_rfl) (by kernel_rfl) (by kernel_rfl) (fun _ _ _ h => h) (Or.inl ⟨by rfl, ?_⟩) (by assumption) ?_
              rotate_left
              · intro w hSw; (try dsimp only at hSw); go_simp; try with_reducible rfl
              try simp only [Act.put, List.getElem_toArray, List.getElem_cons_zero, List.getElem_cons_succ, List.setIfInBounds_toArray, List.set_cons_zero, List.set_cons_succ]
              refine wpAnyH_ready (rs := [5, 9]) (by kernel_rfl) (by simp) ?_
              refine AllReadyH.cons rfl (fun K hK => ?_) (AllReadyH.cons rfl (fun K hK => ?_) AllReadyH.nil)
              · go_simp
                refine (TD.out _).mono ?_
                rintro e Vc ⟨rfl, hh⟩
                replace hB := below_seq hB hh
                replace xf := xf.seq hh
                replace xa := xa.seq hh
                clear hHeld
                refine hK.out _ _ ?_ (fun hHeld => ?_)
                · exact ⟨xf.cell 0 rfl, xf.cell 1 rfl, xf.cell 2 rfl, xf.cell 3 rfl, xf.cell 4 rfl, (HC.out _ hB).1, (HC.out _ hB).2.1, (HC.out _ hB).2.2.1, (HC.out _ hB).2.2.2⟩
                clear hK K
                try simp only [Act.put, List.getElem_toArray, List.getElem_cons_zero, List.getElem_cons_succ, List.setIfInBounds_toArray, List.set_cons_zero, List.set_cons_succ]
                refine wpAnyH_take (i := 6) (v := ?_) rfl (by kernel_rfl) (by kernel_rfl) (by kernel_rfl) (fun _ _ _ h => h) (Or.inl ⟨by rfl, ?_⟩) (by assumption) ?_
                rotate_left
                · intro w hSw; (try dsimp only at hSw); go_simp; try with_reducible rfl
                try simp only [Act.put, List.getElem_toArray, List.getElem_cons_zero, List.getElem_cons_succ, List.setIfInBounds_toArray, List.set_cons_zero, List.set_cons_succ]
                refine wpAnyH_take (i := 7) (v := ?_) rfl (by kernel_rfl) (by kernel_rfl) (by kernel_rfl) (fun _ _ _ h => h) (Or.inl ⟨by rfl, ?_⟩) (by assumption) ?_
                rotate_left
                · intro w hSw; (try dsimp only at hSw); go_simp; try with_reducible rfl
                try simp only [Act.put, List.getElem_toArray, List.getElem_cons_zero, List.getElem_cons_succ, List.setIfInBounds_toArray, List.set_cons_zero, List.set_cons_succ]
                refine wpAnyH_take (i := 8) (v := ?_) rfl (by kernel_rfl) (by kernel_rfl) (by kernel_rfl) (fun _ _ _ h => h) (Or.inl ⟨by rfl, ?_⟩) (by assumption) ?_
                rotate_left
                · intro w hSw; (try dsimp only at hSw); go_simp; try with_reducible rfl
                try simp only [Act.put, List.getElem_toArray, List.getElem_cons_zero, List.getElem_cons_succ, List.setIfInBounds_toArray, List.set_cons_zero, List.set_cons_succ]
                refine wpAnyH_ready (rs := [9]) (by kernel_rfl) (by simp) ?_
                refine AllReadyH.cons rfl (fun K hK => ?_) AllReadyH.nil
                go_simp
                have xb := Box.new 25 Vc [.string ⟨#[]⟩, .string ⟨#[]⟩, .int .i64 0, .int .i64 0, .int .i64 0]
                have hgz : W.heap.size ≤ Vc.heap.size := hB.size
                have nxf : Vc.heap.size ≠ W.heap.size := by have := xf.lt; omega
                replace xf := xf.alloc (.cells #[.string ⟨#[]⟩, .string ⟨#[]⟩, .int .i64 0, .int .i64 0, .int .i64 0] 25)
                have nxa : Vc.heap.size ≠ gA := by have := xa.lt; omega
                replace xa := xa.alloc (.cells #[.string ⟨#[]⟩, .string ⟨#[]⟩, .int .i64 0, .int .i64 0, .int .i64 0] 25)
                replace hB := hB.alloc hB.size (.cells #[.string ⟨#[]⟩, .string ⟨#[]⟩, .int .i64 0, .int .i64 0, .int .i64 0] 25)
                generalize Vc.alloc (.cells #[.string ⟨#[]⟩, .string ⟨#[]⟩, .int .i64 0, .int .i64 0, .int .i64 0] 25) = Vz at *
                clear hHeld
                refine hK.out _ _ ?_ (fun hHeld => ?_)
                · exact ⟨xf.cell 0 rfl, xf.cell 1 rfl, xf.cell 2 rfl, xf.cell 3 rfl, xf.cell 4 rfl, (HC.out _ hB).1, (HC.out _ hB).2.1, (HC.out _ hB).2.2.1, (HC.out _ hB).2.2.2⟩
                clear hK K
                try simp only [Act.put, List.getElem_toArray, List.getElem_cons_zero, List.getElem_cons_succ, List.setIfInBounds_toArray, List.set_cons_zero, List.set_cons_succ]
                generalize Vc.heap.size = gz at *
                refine wpAnyH_ready (rs := [10]) (by kernel_rfl) (by simp) ?_
                refine AllReadyH.cons rfl (fun K hK => ?_) AllReadyH.nil
                have z0 := xb.cell 0 rfl
                have y0 := xb.frozen 0
                have z1 := xb.cell 1 rfl
                have y1 := xb.frozen 1
                have z2 := xb.cell 2 rfl
                have y2 := xb.frozen 2
                have z3 := xb.cell 3 rfl
                have y3 := xb.frozen 3
                have z4 := xb.cell 4 rfl
                have y4 := xb.frozen 4
                go_simp
                clear z0 y0 z1 y1 z2 y2 z3 y3 z4 y4
                replace xf := (((((xf.other nxf 0 (.string a.b0)).other nxf 1 (.string a.b1)).other nxf 2 (.int .i64 a.e0)).other nxf 3 (.int .i64 a.e1)).other nxf 4 (.int .i64 a.lim))
                replace xa := (((((xa.other nxa 0 (.string a.b0)).other nxa 1 (.string a.b1)).other nxa 2 (.int .i64 a.e0)).other nxa 3 (.int .i64 a.e1)).other nxa 4 (.int .i64 a.lim))
                replace xb : Box 25 (((((Vz.setCell ⟨gz, 0, none⟩ (.string a.b0)).setCell ⟨gz, 1, none⟩ (.string a.b1)).setCell ⟨gz, 2, none⟩ (.int .i64 a.e0)).setCell ⟨gz, 3, none⟩ (.int .i64 a.e1)).setCell ⟨gz, 4, none⟩ (.int .i64 a.lim)) gz [.string a.b0, .string a.b1, .int .i64 a.e0, .int .i64 a.e1, .int .i64 a.lim] := (((((xb.set 0 (.string a.b0)).set 1 (.string a.b1)).set 2 (.int .i64 a.e0)).set 3 (.int .i64 a.e1)).set 4 (.int .i64 a.lim))
                replace hB : Below W.heap.size W (((((Vz.setCell ⟨gz, 0, none⟩ (.string a.b0)).setCell ⟨gz, 1, none⟩ (.string a.b1)).setCell ⟨gz, 2, none⟩ (.int .i64 a.e0)).setCell ⟨gz, 3, none⟩ (.int .i64 a.e1)).setCell ⟨gz, 4, none⟩ (.int .i64 a.lim)) := (((((hB.setCell hgz _).setCell hgz _).setCell hgz _).setCell hgz _).setCell hgz _)
                generalize (((((Vz.setCell ⟨gz, 0, none⟩ (.string a.b0)).setCell ⟨gz, 1, none⟩ (.string a.b1)).setCell ⟨gz, 2, none⟩ (.int .i64 a.e0)).setCell ⟨gz, 3, none⟩ (.int .i64 a.e1)).setCell ⟨gz, 4, none⟩ (.int .i64 a.lim)) = Vn at *
                clear hHeld
                refine hK.out _ _ ?_ (fun hHeld => ?_)
                · exact ⟨xf.cell 0 rfl, xf.cell 1 rfl, xf.cell 2 rfl, xf.cell 3 rfl, xf.cell 4 rfl, (HC.out _ hB).1, (HC.out _ hB).2.1, (HC.out _ hB).2.2.1, (HC.out _ hB).2.2.2⟩
                clear hK K
                try simp only [Act.put, List.getElem_toArray, List.getElem_cons_zero, List.getElem_cons_succ, List.setIfInBounds_toArray, List.set_cons_zero, List.set_cons_succ]
                refine wpAnyH_take (i := 11) (v := ?_) rfl (by kernel_rfl) (by kernel_rfl) (by kernel_rfl) (fun _ _ _ h => h) (Or.inl ⟨by rfl, ?_⟩) (by assumption) ?_
                rotate_left
                · intro w hSw; (try dsimp only at hSw); go_simp; try with_reducible rfl
                try simp only [Act.put, List.getElem_toArray, List.getElem_cons_zero, List.getElem_cons_succ, List.setIfInBounds_toArray, List.set_cons_zero, List.set_cons_succ]
                refine wpAnyH_done (by kernel_rfl) ?_ _
                have xf0 := xf.cell 0 rfl
                have xf1 := xf.cell 1 rfl
                have xf2 := xf.cell 2 rfl
                have xf3 := xf.cell 3 rfl
                have xf4 := xf.cell 4 rfl
                have xa0 := xa.cell 0 rfl
                have xa1 := xa.cell 1 rfl
                have xa2 := xa.cell 2 rfl
                have xa3 := xa.cell 3 rfl
                have xa4 := xa.cell 4 rfl
                go_wp2
                go_ret
                exact ⟨rfl, hB⟩
              · go_simp
                have xb := Box.new 25 Vd [.string ⟨#[]⟩, .string ⟨#[]⟩, .int .i64 0, .int .i64 0, .int .i64 0]
                have hgz : W.heap.size ≤ Vd.heap.size := hB.size
                have nxf : Vd.heap.size ≠ W.heap.size := by have := xf.lt; omega
                replace xf := xf.alloc (.cells #[.string ⟨#[]⟩, .string ⟨#[]⟩, .int .i64 0, .int .i64 0, .int .i64 0] 25)
                have nxa : Vd.heap.size ≠ gA := by have := xa.lt; omega
                replace xa := xa.alloc (.cells #[.string ⟨#[]⟩, .string ⟨#[]⟩, .int .i64 0, .int .i64 0, .int .i64 0] 25)
                replace hB := hB.alloc hB.size (.cells #[.string ⟨#[]⟩, .string ⟨#[]⟩, .int .i64 0, .int .i64 0, .int .i64 0] 25)
                generalize Vd.alloc (.cells #[.string ⟨#[]⟩, .string ⟨#[]⟩, .int .i64 0, .int .i64 0, .int .i64 0] 25) = Va at *
                clear hHeld
                refine hK.out _ _ ?_ (fun hHeld => ?_)
                · exact ⟨xf.cell 0 rfl, xf.cell 1 rfl, xf.cell 2 rfl, xf.cell 3 rfl, xf.cell 4 rfl, (HC.out _ hB).1, (HC.out _ hB).2.1, (HC.out _ hB).2.2.1, (HC.out _ hB).2.2.2⟩
                clear hK K
                try simp only [Act.put, List.getElem_toArray, List.getElem_cons_zero, List.getElem_cons_succ, List.setIfInBounds_toArray, List.set_cons_zero, List.set_cons_succ]
                refine wpAnyH_ready (rs := [5]) (by kernel_rfl) (by simp) ?_
                refine AllReadyH.cons rfl (fun K hK => ?_) AllReadyH.nil
                go_simp
                refine (TD.out _).mono ?_
                rintro e Vz ⟨rfl, hh⟩
                replace hB := below_seq hB hh
                replace xf := xf.seq hh
                replace xa := xa.seq hh
                replace xb := xb.seq hh
                clear hHeld
                refine hK.out _ _ ?_ (fun hHeld => ?_)
                · exact ⟨xf.cell 0 rfl, xf.cell 1 rfl, xf.cell 2 rfl, xf.cell 3 rfl, xf.cell 4 rfl, (HC.out _ hB).1, (HC.out _ hB).2.1, (HC.out _ hB).2.2.1, (HC.out _ hB).2.2.2⟩
                clear hK K
                try simp only [Act.put, List.getElem_toArray, List.getElem_cons_zero, List.getElem_cons_succ, List.setIfInBounds_toArray, List.set_cons_zero, List.set_cons_succ]
                refine wpAnyH_take (i := 6) (v := ?_) rfl (by kernel_rfl) (by kernel_rfl) (by kernel_rfl) (fun _ _ _ h => h) (Or.inl ⟨by rfl, ?_⟩) (by assumption) ?_
                rotate_left
                · intro w hSw; (try dsimp only at hSw); go_simp; try with_reducible rfl
                try simp only [Act.put, List.getElem_toArray, List.getElem_cons_zero, List.getElem_cons_succ, List.setIfInBounds_toArray, List.set_cons_zero, List.set_cons_succ]
                refine wpAnyH_take (i := 7) (v := ?_) rfl (by kernel_rfl) (by kernel_rfl) (by kernel_rfl) (fun _ _ _ h => h) (Or.inl ⟨by rfl, ?_⟩) (by assumption) ?_
                rotate_left
                · intro w hSw; (try dsimp only at hSw); go_simp; try with_reducible rfl
                try simp only [Act.put, List.getElem_toArray, List.getElem_cons_zero, List.getElem_cons_succ, List.setIfInBounds_toArray, List.set_cons_zero, List.set_cons_succ]
                refine wpAnyH_take (i := 8) (v := ?_) rfl (by kernel_rfl) (by kernel_rfl) (by kernel_rfl) (fun _ _ _ h => h) (Or.inl ⟨by rfl, ?_⟩) (by assumption) ?_
                rotate_left
                · intro w hSw; (try dsimp only at hSw); go_simp; try with_reducible rfl
                try simp only [Act.put, List.getElem_toArray, List.getElem_cons_zero, List.getElem_cons_succ, List.setIfInBounds_toArray, List.set_cons_zero, List.set_cons_succ]
                generalize Vd.heap.size = gz at *
                refine wpAnyH_ready (rs := [10]) (by kernel_rfl) (by simp) ?_
                refine AllReadyH.cons rfl (fun K hK => ?_) AllReadyH.nil
                have z0 := xb.cell 0 rfl
                have y0 := xb.frozen 0
                have z1 := xb.cell 1 rfl
                have y1 := xb.frozen 1
                have z2 := xb.cell 2 rfl
                have y2 := xb.frozen 2
                have z3 := xb.cell 3 rfl
                have y3 := xb.frozen 3
                have z4 := xb.cell 4 rfl
                have y4 := xb.frozen 4
                go_simp
                clear z0 y0 z1 y1 z2 y2 z3 y3 z4 y4
                replace xf := (((((xf.other nxf 0 (.string a.b0)).other nxf 1 (.string a.b1)).other nxf 2 (.int .i64 a.e0)).other nxf 3 (.int .i64 a.e1)).other nxf 4 (.int .i64 a.lim))
                replace xa := (((((xa.other nxa 0 (.string a.b0)).other nxa 1 (.string a.b1)).other nxa 2 (.int .i64 a.e0)).other nxa 3 (.int .i64 a.e1)).other nxa 4 (.int .i64 a.lim))
                replace xb : Box 25 (((((Vz.setCell ⟨gz, 0, none⟩ (.string a.b0)).setCell ⟨gz, 1, none⟩ (.string a.b1)).setCell ⟨gz, 2, none⟩ (.int .i64 a.e0)).setCell ⟨gz, 3, none⟩ (.int .i64 a.e1)).setCell ⟨gz, 4, none⟩ (.int .i64 a.lim)) gz [.string a.b0, .string a.b1, .int .i64 a.e0, .int .i64 a.e1, .int .i64 a.lim] := (((((xb.set 0 (.string a.b0)).set 1 (.string a.b1)).set 2 (.int .i64 a.e0)).set 3 (.int .i64 a.e1)).set 4 (.int .i64 a.lim))
                replace hB : Below W.heap.size W (((((Vz.setCell ⟨gz, 0, none⟩ (.string a.b0)).setCell ⟨gz, 1, none⟩ (.string a.b1)).setCell ⟨gz, 2, none⟩ (.int .i64 a.e0)).setCell ⟨gz, 3, none⟩ (.int .i64 a.e1)).setCell ⟨gz, 4, none⟩ (.int .i64 a.lim)) := (((((hB.setCell hgz _).setCell hgz _).setCell hgz _).setCell hgz _).setCell hgz _)
                generalize (((((Vz.setCell ⟨gz, 0, none⟩ (.string a.b0)).setCell ⟨gz, 1, none⟩ (.string a.b1)).setCell ⟨gz, 2, none⟩ (.int .i64 a.e0)).setCell ⟨gz, 3, none⟩ (.int .i64 a.e1)).setCell ⟨gz, 4, none⟩ (.int .i64 a.lim)) = Vn at *
                clear hHeld
                refine hK.out _ _ ?_ (fun hHeld => ?_)
                · exact ⟨xf.cell 0 rfl, xf.cell 1 rfl, xf.cell 2 rfl, xf.cell 3 rfl, xf.cell 4 rfl, (HC.out _ hB).1, (HC.out _ hB).2.1, (HC.out _ hB).2.2.1, (HC.out _ hB).2.2.2⟩
                clear hK K
                try simp only [Act.put, List.getElem_toArray, List.getElem_cons_zero, List.getElem_cons_succ, List.setIfInBounds_toArray, List.set_cons_zero, List.set_cons_succ]
                refine wpAnyH_take (i := 11) (v := ?_) rfl (by kernel_rfl) (by kernel_rfl) (by kernel_rfl) (fun _ _ _ h => h) (Or.inl ⟨by rfl, ?_⟩) (by assumption) ?_
                rotate_left
                · intro w hSw; (try dsimp only at hSw); go_simp; try with_reducible rfl
                try simp only [Act.put, List.getElem_toArray, List.getElem_cons_zero, List.getElem_cons_succ, List.setIfInBounds_toArray, List.set_cons_zero, List.set_cons_succ]
                refine wpAnyH_done (by kernel_rfl) ?_ _
                have xf0 := xf.cell 0 rfl
                have xf1 := xf.cell 1 rfl
                have xf2 := xf.cell 2 rfl
                have xf3 := xf.cell 3 rfl
                have xf4 := xf.cell 4 rfl
                have xa0 := xa.cell 0 rfl
                have xa1 := xa.cell 1 rfl
                have xa2 := xa.cell 2 rfl
                have xa3 := xa.cell 3 rfl
                have xa4 := xa.cell 4 rfl
                go_wp2
                go_ret
                exact ⟨rfl, hB⟩
          · obtain rfl : k = l.length := by omega
            have HS := HR.symm.trans (HP.out.trans play_end)
            simp only [Prod.mk.injEq] at HS
            obtain ⟨rfl, rfl, rfl⟩ := HS
            clear HP HR T1
            have xf0 := xf.cell 0 rfl
            have xf1 := xf.cell 1 rfl
            have xf2 := xf.cell 2 rfl
            have xf3 := xf.cell 3 rfl
            have xf4 := xf.cell 4 rfl
            have xa0 := xa.cell 0 rfl
            have xa1 := xa.cell 1 rfl
            have xa2 := xa.cell 2 rfl
            have xa3 := xa.cell 3 rfl
            have xa4 := xa.cell 4 rfl
            go_wp2
            go_ret
            exact ⟨rfl, hB⟩

theorem own : ownKnob Try.prog.godebug = none := by kernel_rfl

set_option maxRecDepth 100000 in
theorem lifted (os : Os) (started : os.Started) (H : Type) (enc : TypeId × Value → H) :
    ReturnsInHanded {} Try.checked os 10 .any (Rows.powerEndsSpec.pre6 enc Try.prog Try.f10 Rows.powerEndsRow.domain false) (Rows.powerEndsSpec.post enc Try.prog Try.f10 false true false false) := by
  refine returnsInHanded_of_change (C := Try.checked) own started (by kernel_rfl) Try.func10
    (ChangeSpec.witness6 (enc := enc) (C := Try.checked) false ⟨#[], #[.agg #[.string ⟨#[]⟩, .string ⟨#[]⟩, .int .i64 0, .int .i64 0, .int .i64 0], .slice none 0 0, .int .i64 0, .string ⟨#[]⟩], []⟩ 8 (by kernel_rfl) (by kernel_rfl) (by kernel_rfl) (by kernel_rfl)) ?_
  intro W base args ds gs before hval hW _ _
  have hW' := hW
  obtain ⟨p, q, hA0, hV, rfl, hfz, hnd⟩ := hW
  have hA : DataW.TrodAll enc Try.prog W 0 (fun _ => true) true Try.f10.params.toList args.toList ds p := hA0
  rw [Try.params10] at hA hval
  obtain ⟨v0, vs0, d0, ds0, p0, q0, hargs, rfl, rfl, h0, r0⟩ := trodAll_cons hA
  obtain ⟨v1, vs1, d1, ds1, p1, q1, rfl, rfl, rfl, h1, r1⟩ := trodAll_cons r0
  obtain ⟨v2, vs2, d2, ds2, p2, q2, rfl, rfl, rfl, h2, r2⟩ := trodAll_cons r1
  obtain ⟨v3, vs3, d3, ds3, p3, q3, rfl, rfl, rfl, h3, r3⟩ := trodAll_cons r2
  obtain ⟨rfl, rfl, rfl⟩ := trodAll_nil r3
  obtain rfl : args = #[v0, v1, v2, v3] := by cases args; simp_all
  obtain ⟨rfl, rfl⟩ := trodVars_none hV
  have k0 := h0
  obtain ⟨s0, rfl, hs0⟩ := open_fl (hval 0 25 v0 rfl rfl) h0
  have k1 := h1
  obtain ⟨s1, A1, c1, rfl, hs1, ho1, hp1, hq1⟩ := open_ops (hval 1 45 v1 rfl rfl) h1
  obtain ⟨a2, rfl, rfl, rfl, w2⟩ := open_int Try.underlying3 (hval 2 3 v2 rfl rfl) h2
  obtain ⟨s3, rfl, rfl, rfl, hs3⟩ := open_string Try.underlying9 (hval 3 9 v3 rfl rfl) h3
  clear hA0
  simp only [List.append_nil] at hW'
  refine (walk s0 s1 A1 c1 a2 s3 W hs0 hs1 ho1 hp1 hq1 (int_i64 w2) hs3).mono fun e W' ⟨he, hB⟩ => ?_
  subst he
  exact ⟨_, rfl, ⟨_, _, _, [], _, [], hW', trodAll_cons_mk (shut_bool Try.underlying4 _) trodAll_mk0, (trodAll_cons_mk (Below.trod Try.laidOut (by kernel_rfl) (of_decide_eq_true (by kernel_rfl)) k0 hB (fun x hx => by simpa using hW'.lt x (by simp [hx]))) (trodAll_cons_mk (Below.trod Try.laidOut (by kernel_rfl) (of_decide_eq_true (by kernel_rfl)) k1 hB (fun x hx => by simpa using hW'.lt x (by simp [hx]))) (trodAll_cons_mk (shut_int Try.underlying3 w2) (trodAll_cons_mk (shut_string Try.underlying9 hs3) trodAll_mk0)))), rfl, hB.frame _, fun h => by cases h⟩⟩

theorem holds : Rows.PowerEndsSaid :=
  OpenClaim.holds_of_wide 10 Try.f10 rfl rfl rfl rfl rfl rfl rfl ⟨rfl, rfl, rfl, rfl, rfl⟩ rfl rfl rfl rfl rfl (by kernel_rfl) Try.func10 (by kernel_rfl)
    (of_decide_eq_true (by kernel_rfl)) (by unfold Func.isWrapper; first | (rw [if_pos (by decide +kernel)]; kernel_rfl) | (rw [if_neg (by decide +kernel)]; exact ⟨rfl, rfl⟩))
    (fun os started H enc _ => lifted os started H enc)
end Go.Proofs.Ytoemjfjmpmngeab.PowerEnds

/- The laws' own helpers of layer 11: contracts only. -/
import Derived.Test.YtiacdcnpkfpjaaaGreatRows
import Derived.Test.YtiacdcnpkfpjaaaGreatPlanOps
import Derived.Test.YtiacdcnpkfpjaaaGreatPowerOps
import Derived.Test.YtiacdcnpkfpjaaaGreatBox
import Derived.Test.YtiacdcnpkfpjaaaGreatInts
import Derived.WalkKit
import Derived.ProofKit
import Derived.Lib.Hide
import Derived.Test.YtiacdcnpkfpjaaaGreatPlanOwn
import Derived.Test.YtiacdcnpkfpjaaaGreatPickRef
import Derived.Test.YtiacdcnpkfpjaaaGreatPowerRefPlay
import Derived.Test.YtiacdcnpkfpjaaaGreatPowerOwn
import Derived.Test.YtiacdcnpkfpjaaaGreatPowerOpen
import Derived.Test.YtiacdcnpkfpjaaaGreatFlashOwn
import Derived.Test.YtiacdcnpkfpjaaaGreatFlashOpen
import Derived.Deep.RegionHeld3
import Derived.WalkLawsBesides
import Derived.WalkSpells
import Derived.IntWalk
import Derived.Maps.AppendAt
namespace Go.Proofs.YtiacdcnpkfpjaaaGreat
open Go.RowKit
set_option linter.unusedVariables false
set_option linter.unusedSimpArgs false

theorem Tryz.info_op4 : (Tryz.prog.info? 64).map (fun i => (i.zero, i.size, i.bytes)) = some (some (.agg #[.int .i64 0, .int .i64 0, .int .i64 0, .string ⟨#[]⟩]), 4, 40) := by kernel_rfl
theorem op_news (W : World) (t : TypeId) (o : PwOp) : ∀ j u, (opV o)[j]? = some u → (W.alloc (.cells #[.int .i64 o.kind, .int .i64 o.bank, .int .i64 o.q, .string o.d] t)).cell? ((⟨W.heap.size, 0, none⟩ : Addr).add j) = some u := fun j u h => by
  have e : (⟨W.heap.size, 0, none⟩ : Addr).add j = ⟨W.heap.size, j, none⟩ := by simp [Addr.add]; intro h; exact h.symm
  rw [e]; exact (Box.new t W (opV o)).cell j h

set_option maxRecDepth 100000 in
set_option maxHeartbeats 4000000 in
theorem law11Its (f : Fl) (W : World) : Calls Tryz.prog 10 #[.agg #[.string f.b0, .string f.b1, .int .i64 f.e0, .int .i64 f.e1, .int .i64 f.lim]] W fun e W' => e = .returned (.agg #[.string f.b0, .string f.b1, .int .i64 f.e0, .int .i64 f.e1, .int .i64 f.lim]) ∧ Below W.heap.size W W' := by
  go_enter Tryz.func10, Tryz.ntmps10
  go_wp2
  exact bodyPost_ret (v := .agg #[.string f.b0, .string f.b1, .int .i64 f.e0, .int .i64 f.e1, .int .i64 f.lim]) (by simp [results, Tryz.results10, go_sem]) rfl ⟨rfl, ((Below.refl _ _).alloc (Nat.le_refl _) _).alloc (by simp) _⟩

def big11 (f : Fl) : Bool := decide ((400 : Int) < (f.b0.size : Int)) || decide ((400 : Int) < (f.b1.size : Int))
theorem big11_no {f : Fl} (h : big11 f = false) : f.b0.size ≤ 400 ∧ f.b1.size ≤ 400 := by unfold big11 at h; simp at h; omega

set_option maxRecDepth 100000 in
set_option maxHeartbeats 4000000 in
theorem law11Big (f : Fl) (W : World) : Calls Tryz.prog 6 #[.agg #[.string f.b0, .string f.b1, .int .i64 f.e0, .int .i64 f.e1, .int .i64 f.lim]] W fun e W' => e = .returned (.bool (big11 f)) ∧ Below W.heap.size W W' := by
  by_cases h : 400 < f.b0.size
  · have hb : big11 f = true := by unfold big11; rw [decide_eq_true (by omega : (400 : Int) < (f.b0.size : Int))]; rfl
    have m1 : (f.b0.size : Int) > 400 := by omega
    rw [hb]
    clear hb h
    have hB : Below W.heap.size W (W.alloc (.cells #[.string f.b0, .string f.b1, .int .i64 f.e0, .int .i64 f.e1, .int .i64 f.lim] 25)) := ((Below.refl _ _).alloc (Nat.le_refl _) _)
    have xf := (Box.new 25 W [.string f.b0, .string f.b1, .int .i64 f.e0, .int .i64 f.e1, .int .i64 f.lim])
    go_enter Tryz.func6, Tryz.ntmps6
    have xf0 := xf.cell 0 rfl
    have xfz0 := xf.frozen 0
    have xf1 := xf.cell 1 rfl
    have xfz1 := xf.frozen 1
    have xf2 := xf.cell 2 rfl
    have xfz2 := xf.frozen 2
    have xf3 := xf.cell 3 rfl
    have xfz3 := xf.frozen 3
    have xf4 := xf.cell 4 rfl
    have xfz4 := xf.frozen 4
    go_wp2
    go_ret
    exact ⟨rfl, hB⟩
  · have m1 : ¬ (f.b0.size : Int) > 400 := by omega
    have hb : big11 f = decide ((400 : Int) < (f.b1.size : Int)) := by unfold big11; rw [decide_eq_false (by omega : ¬ (400 : Int) < (f.b0.size : Int))]; rfl
    rw [hb]
    clear hb h
    by_cases h2 : 400 < f.b1.size
    · have m2 : (f.b1.size : Int) > 400 := by omega
      rw [decide_eq_true (by omega : (400 : Int) < (f.b1.size : Int))]
      clear h2
      have hB : Below W.heap.size W (W.alloc (.cells #[.string f.b0, .string f.b1, .int .i64 f.e0, .int .i64 f.e1, .int .i64 f.lim] 25)) := ((Below.refl _ _).alloc (Nat.le_refl _) _)
      have xf := (Box.new 25 W [.string f.b0, .string f.b1, .int .i64 f.e0, .int .i64 f.e1, .int .i64 f.lim])
      go_enter Tryz.func6, Tryz.ntmps6
      have xf0 := xf.cell 0 rfl
      have xfz0 := xf.frozen 0
      have xf1 := xf.cell 1 rfl
      have xfz1 := xf.frozen 1
      have xf2 := xf.cell 2 rfl
      have xfz2 := xf.frozen 2
      have xf3 := xf.cell 3 rfl
      have xfz3 := xf.frozen 3
      have xf4 := xf.cell 4 rfl
      have xfz4 := xf.frozen 4
      go_wp2
      go_ret
      exact ⟨rfl, hB⟩
    · have m2 : ¬ (f.b1.size : Int) > 400 := by omega
      rw [decide_eq_false (by omega : ¬ (400 : Int) < (f.b1.size : Int))]
      clear h2
      have hB : Below W.heap.size W (W.alloc (.cells #[.string f.b0, .string f.b1, .int .i64 f.e0, .int .i64 f.e1, .int .i64 f.lim] 25)) := ((Below.refl _ _).alloc (Nat.le_refl _) _)
      have xf := (Box.new 25 W [.string f.b0, .string f.b1, .int .i64 f.e0, .int .i64 f.e1, .int .i64 f.lim])
      go_enter Tryz.func6, Tryz.ntmps6
      have xf0 := xf.cell 0 rfl
      have xfz0 := xf.frozen 0
      have xf1 := xf.cell 1 rfl
      have xfz1 := xf.frozen 1
      have xf2 := xf.cell 2 rfl
      have xfz2 := xf.frozen 2
      have xf3 := xf.cell 3 rfl
      have xfz3 := xf.frozen 3
      have xf4 := xf.cell 4 rfl
      have xfz4 := xf.frozen 4
      go_wp2
      go_ret
      exact ⟨rfl, hB⟩

set_option maxRecDepth 100000 in
set_option maxHeartbeats 4000000 in
theorem law11Ops (l : List PwOp) (A : Option Addr) (c : Nat) (W : World) (hl : OpsAt W A l) (hc : l.length ≤ c ∧ c ≤ maxLen) (hn : l.length ≤ 20) :
    Calls Tryz.prog 12 #[.slice A l.length c] W fun e W' => ∃ (A : Option Addr) (c : Nat), e = .returned (.slice A l.length c) ∧ OpsAt W' A l ∧ (l.length ≤ c ∧ c ≤ maxLen) ∧ Below W.heap.size W W' := by
  obtain ⟨i0, hi, hz0, hz1, hz2⟩ := info_parts Tryz.info_op4
  have HOP := Lib.hid (fun (k : Nat) (o : PwOp) (hk : l[k]? = some o) => (show ∃ g off, A = some ⟨g, off, none⟩ ∧ ∀ V : World, Below W.heap.size W V → (V.cell? ⟨g, off + k * 4, none⟩ = some (.int .i64 o.kind) ∧ V.cell? ⟨g, off + k * 4 + 1, none⟩ = some (.int .i64 o.bank) ∧ V.cell? ⟨g, off + k * 4 + 2, none⟩ = some (.int .i64 o.q) ∧ V.cell? ⟨g, off + k * 4 + 3, none⟩ = some (.string o.d)) from by
    have hk1 : k < l.length := (List.getElem?_eq_some_iff.1 hk).1
    obtain ⟨g, off, e, hg, hcl⟩ := hl (by omega)
    refine ⟨g, off, e, fun V hV => ?_⟩
    obtain ⟨a, b, c, d⟩ := hcl k o hk
    exact ⟨(hV.cell (p := ⟨g, _, none⟩) hg).trans a, (hV.cell (p := ⟨g, _, none⟩) hg).trans b, (hV.cell (p := ⟨g, _, none⟩) hg).trans c, (hV.cell (p := ⟨g, _, none⟩) hg).trans d⟩))
  clear hl
  go_enter Tryz.func12, Tryz.ntmps12
  go_wp2
  go_loopw [3, 4] (fun v i w => ∃ k : Nat, k ≤ l.length ∧ i = .int .i64 k ∧ w.ownsRow W.heap.size 64 4 v k ((l.take k).flatMap opV) ∧ Below W.heap.size W w)
    (fun _ i _ => l.length - (intOf i).toNat)
  case atStart => exact ⟨0, Nat.zero_le _, rfl, World.ownsRow_made _ _ 0 (by simp) (by simp) rfl, (Below.refl _ _).alloc (Nat.le_refl _) _⟩
  case round =>
    obtain ⟨k, hk, rfl, hown, hB⟩ := hrel
    have hsz := hB.size
    by_cases hlt : k < l.length
    · obtain ⟨o, hoo⟩ : ∃ o, l[k]? = some o := ⟨_, List.getElem?_eq_getElem hlt⟩
      obtain ⟨gL, off, rfl, HC⟩ := HOP.out k o hoo
      obtain ⟨d0, d1, d2, d3⟩ := HC _ hB
      have H3 : ∀ (w : World) (v : Value), w.ownsRow W.heap.size 64 4 v (k + 1) ((l.take k).flatMap opV ++ opV o) → w.ownsRow W.heap.size 64 4 v (k + 1) ((l.take (k + 1)).flatMap opV) := fun w v h => by
        have e : l.take (k + 1) = l.take k ++ [o] := by rw [List.take_add_one, hoo]; rfl
        rw [e, List.flatMap_append, List.flatMap_singleton]; exact h
      replace H3 := Lib.hid H3
      clear HC hoo HOP
      have j1 : (k : Int) < (l.length : Int) := by omega
      have j2 : (k : Int) < 20 := by omega
      have j3 : (0 : Int) ≤ (k : Int) := by omega
      go_wp2_with (at_builtin; refine wpList_append_own _ rfl _ _ 41 rfl W.heap.size 64 i0 (.agg #[.int .i64 0, .int .i64 0, .int .i64 0, .string ⟨#[]⟩]) 4 40 Tryz.underlying41 hi hz0 hz1 hz2 rfl (by decide) _ _ _ rfl (hown.alloc _) ⟨wr.heap.size, 0, none⟩ 1 1 (opV o) rfl rfl ?c1 ?c2 ?c3 ?c4 ?c5 ?_)
      case c1 => exact op_news _ _ _
      case c2 => simp [Value.oneCell', opV]
      case c3 => unfold maxLen; omega
      case c4 => omega
      case c5 => simp; omega
      intro v' w1 hown' hgrow _
      have hB' : Below W.heap.size W w1 := (hB.alloc hsz _).grown hgrow (by simp; omega) (fun j e => ((hown.lt j e).1))
      have H4 := Lib.hid (H3.out _ _ hown')
      clear hown' hown hgrow hB d0 d1 d2 d3 H3
      go_wp2
      go_roundw
      case rel => exact ⟨k + 1, by omega, by go_num, H4.out, hB'⟩
      case measure => simp [intOf]; omega
    · obtain rfl : k = l.length := by omega
      rw [List.take_length] at hown
      obtain ⟨A', c', rfl, hO, hcc⟩ := ops_of_row hown
      clear hown HOP
      go_wp2
      go_ret
      exact ⟨A', c', rfl, hO, hcc, hB⟩

set_option maxRecDepth 100000 in
set_option maxHeartbeats 4000000 in
theorem shown11 (W : World) : Calls Tryz.prog 7 #[] W fun e W' => e = .returned (.bool true) ∧ Below W.heap.size W W' := by
  obtain ⟨l0, hl0⟩ : ∃ l, (planR pn0 7).1 = l := ⟨_, rfl⟩
  obtain ⟨l1, hl1⟩ : ∃ l, (planR pn1 8).1 = l := ⟨_, rfl⟩
  have k0 := plan_ops_ok pn0 7
  have k1 := plan_ops_ok pn1 8
  have y0 := pn_y0
  have y1 := pn_y1
  have e1 : (playR pn0 (planR pn0 7).1 (-1) ⟨#[]⟩).1 = pn1 := rfl
  have e2 : (playR pn1 (planR pn1 8).1 (-1) ⟨#[]⟩).1 = pn2 := rfl
  have n0 := pn_p0.2
  have n1 := pn_p1.2
  rw [hl0] at k0 y0 e1 n0
  rw [hl1] at k1 y1 e2 n1
  have TN := Lib.hid (fun (V : World) => (show Calls Tryz.prog 13 #[.int .i64 72, .int .i64 5] V fun e W' => e = .returned (.agg #[.string pn0.b0, .string pn0.b1, .int .i64 pn0.e0, .int .i64 pn0.e1, .int .i64 pn0.lim]) ∧ Below V.heap.size V W' from by
    have h := flNew 72 5 V
    exact h))
  have TP0 := Lib.hid (fun (V : World) => (show Calls Tryz.prog 8 #[.agg #[.string pn0.b0, .string pn0.b1, .int .i64 pn0.e0, .int .i64 pn0.e1, .int .i64 pn0.lim], .int .u64 7] V fun e W' => ∃ (A : Option Addr) (c : Nat), e = .returned (.tuple #[.slice A 5 c, .int .i64 0]) ∧ OpsAt W' A l0 ∧ (5 ≤ c ∧ c ≤ maxLen) ∧ Below V.heap.size V W' from by
    have h := own11Plan pn0 7 V pn_ok0.ok (by decide)
    rw [pn_p0.1, hl0, n0] at h; exact h))
  have TY0 := Lib.hid (fun (A : Option Addr) (c : Nat) (V : World) (h0 : OpsAt V A l0) (h1 : 5 ≤ c ∧ c ≤ maxLen) => (show Calls Tryz.prog 14 #[.agg #[.string pn0.b0, .string pn0.b1, .int .i64 pn0.e0, .int .i64 pn0.e1, .int .i64 pn0.lim], .slice A 5 c, .int .i64 (-1), .string ⟨#[]⟩] V fun e W' => e = .returned (.tuple #[.agg #[.string pn1.b0, .string pn1.b1, .int .i64 pn1.e0, .int .i64 pn1.e1, .int .i64 pn1.lim], .int .i64 5, .int .i64 0]) ∧ Below V.heap.size V W' from by
    have h := own04Play pn0 l0 A c (-1) ⟨#[]⟩ V pn_ok0 k0 h0 (Nat.zero_le _) (by rw [n0]; exact h1)
    rw [e1, y0, n0] at h; exact h))
  have TP1 := Lib.hid (fun (V : World) => (show Calls Tryz.prog 8 #[.agg #[.string pn1.b0, .string pn1.b1, .int .i64 pn1.e0, .int .i64 pn1.e1, .int .i64 pn1.lim], .int .u64 8] V fun e W' => ∃ (A : Option Addr) (c : Nat), e = .returned (.tuple #[.slice A 2 c, .int .i64 0]) ∧ OpsAt W' A l1 ∧ (2 ≤ c ∧ c ≤ maxLen) ∧ Below V.heap.size V W' from by
    have h := own11Plan pn1 8 V pn_ok1.ok (by decide)
    rw [pn_p1.1, hl1, n1] at h; exact h))
  have TY1 := Lib.hid (fun (A : Option Addr) (c : Nat) (V : World) (h0 : OpsAt V A l1) (h1 : 2 ≤ c ∧ c ≤ maxLen) => (show Calls Tryz.prog 14 #[.agg #[.string pn1.b0, .string pn1.b1, .int .i64 pn1.e0, .int .i64 pn1.e1, .int .i64 pn1.lim], .slice A 2 c, .int .i64 (-1), .string ⟨#[]⟩] V fun e W' => e = .returned (.tuple #[.agg #[.string pn2.b0, .string pn2.b1, .int .i64 pn2.e0, .int .i64 pn2.e1, .int .i64 pn2.lim], .int .i64 2, .int .i64 0]) ∧ Below V.heap.size V W' from by
    have h := own04Play pn1 l1 A c (-1) ⟨#[]⟩ V pn_ok1 k1 h0 (Nat.zero_le _) (by rw [n1]; exact h1)
    rw [e2, y1, n1] at h; exact h))
  have TI := Lib.hid (fun (V : World) => (show Calls Tryz.prog 10 #[.agg #[.string pn2.b0, .string pn2.b1, .int .i64 pn2.e0, .int .i64 pn2.e1, .int .i64 pn2.lim]] V fun e W' => e = .returned (.agg #[.string pn2.b0, .string pn2.b1, .int .i64 pn2.e0, .int .i64 pn2.e1, .int .i64 pn2.lim]) ∧ Below V.heap.size V W' from by
    have h := law11Its pn2 V
    exact h))
  have TR := Lib.hid (fun (V : World) => (show Calls Tryz.prog 9 #[.agg #[.string pn2.b0, .string pn2.b1, .int .i64 pn2.e0, .int .i64 pn2.e1, .int .i64 pn2.lim]] V fun e W' => e = .returned (.tuple #[.agg #[.int .i64 0, .int .u64 1, .int .u64 2, .int .u64 8], .int .i64 0]) ∧ Below V.heap.size V W' from by
    have h := ref10Read pn2 V pn_ok2.ok
    rw [pn_r.1, pn_r.2] at h; exact h))
  clear hl0 hl1 k0 k1 y0 y1 e1 e2 n0 n1
  generalize pn0 = F0 at *
  generalize pn1 = F1 at *
  generalize pn2 = F2 at *
  have hB : Below W.heap.size W W := Below.refl _ _
  go_enter Tryz.func7, Tryz.ntmps7
  go_wp2_with fail
  refine (TN.out _).mono ?_
  rintro e V1 ⟨rfl, hk⟩
  replace hB := below_seq hB hk
  clear hk
  have xf := Box.new 25 V1 [.string F0.b0, .string F0.b1, .int .i64 F0.e0, .int .i64 F0.e1, .int .i64 F0.lim]
  have le_xf : W.heap.size ≤ V1.heap.size := hB.size
  replace hB := hB.alloc hB.size (.cells #[.string F0.b0, .string F0.b1, .int .i64 F0.e0, .int .i64 F0.e1, .int .i64 F0.lim] 25)
  have cxf := xf.f5
  go_wp2_with fail
  refine (TP0.out _).mono ?_
  rintro e V2 ⟨A0, c0, rfl, hl0, hc0, hk⟩
  clear cxf
  replace hB := below_seq hB hk
  replace xf := xf.seq hk
  clear hk
  have cxf := xf.f5
  go_wp2_with fail
  refine (TY0.out A0 c0 _ hl0 hc0).mono ?_
  rintro e V3 ⟨rfl, hk⟩
  clear cxf
  replace hB := below_seq hB hk
  replace xf := xf.seq hk
  replace hl0 := hl0.seq hk
  clear hk
  have cxf := xf.f5
  clear hl0
  go_wp2_with fail
  clear cxf
  replace xf : Box 25 (((((V3.setCell ⟨V1.heap.size, 0, none⟩ (.string F1.b0)).setCell ⟨V1.heap.size, 1, none⟩ (.string F1.b1)).setCell ⟨V1.heap.size, 2, none⟩ (.int .i64 F1.e0)).setCell ⟨V1.heap.size, 3, none⟩ (.int .i64 F1.e1)).setCell ⟨V1.heap.size, 4, none⟩ (.int .i64 F1.lim)) (V1.heap.size) [.string F1.b0, .string F1.b1, .int .i64 F1.e0, .int .i64 F1.e1, .int .i64 F1.lim] := (((((xf.set 0 (.string F1.b0)).set 1 (.string F1.b1)).set 2 (.int .i64 F1.e0)).set 3 (.int .i64 F1.e1)).set 4 (.int .i64 F1.lim))
  replace hB : Below W.heap.size W (((((V3.setCell ⟨V1.heap.size, 0, none⟩ (.string F1.b0)).setCell ⟨V1.heap.size, 1, none⟩ (.string F1.b1)).setCell ⟨V1.heap.size, 2, none⟩ (.int .i64 F1.e0)).setCell ⟨V1.heap.size, 3, none⟩ (.int .i64 F1.e1)).setCell ⟨V1.heap.size, 4, none⟩ (.int .i64 F1.lim)) := (((((hB.setCell le_xf _).setCell le_xf _).setCell le_xf _).setCell le_xf _).setCell le_xf _)
  generalize (((((V3.setCell ⟨V1.heap.size, 0, none⟩ (.string F1.b0)).setCell ⟨V1.heap.size, 1, none⟩ (.string F1.b1)).setCell ⟨V1.heap.size, 2, none⟩ (.int .i64 F1.e0)).setCell ⟨V1.heap.size, 3, none⟩ (.int .i64 F1.e1)).setCell ⟨V1.heap.size, 4, none⟩ (.int .i64 F1.lim)) = V4 at *
  have cxf := xf.f5
  refine (TP1.out _).mono ?_
  rintro e V5 ⟨A1, c1, rfl, hl1, hc1, hk⟩
  clear cxf
  replace hB := below_seq hB hk
  replace xf := xf.seq hk
  clear hk
  have cxf := xf.f5
  go_wp2_with fail
  refine (TY1.out A1 c1 _ hl1 hc1).mono ?_
  rintro e V6 ⟨rfl, hk⟩
  clear cxf
  replace hB := below_seq hB hk
  replace xf := xf.seq hk
  replace hl1 := hl1.seq hk
  clear hk
  have cxf := xf.f5
  clear hl1
  go_wp2_with fail
  clear cxf
  replace xf : Box 25 (((((V6.setCell ⟨V1.heap.size, 0, none⟩ (.string F2.b0)).setCell ⟨V1.heap.size, 1, none⟩ (.string F2.b1)).setCell ⟨V1.heap.size, 2, none⟩ (.int .i64 F2.e0)).setCell ⟨V1.heap.size, 3, none⟩ (.int .i64 F2.e1)).setCell ⟨V1.heap.size, 4, none⟩ (.int .i64 F2.lim)) (V1.heap.size) [.string F2.b0, .string F2.b1, .int .i64 F2.e0, .int .i64 F2.e1, .int .i64 F2.lim] := (((((xf.set 0 (.string F2.b0)).set 1 (.string F2.b1)).set 2 (.int .i64 F2.e0)).set 3 (.int .i64 F2.e1)).set 4 (.int .i64 F2.lim))
  replace hB : Below W.heap.size W (((((V6.setCell ⟨V1.heap.size, 0, none⟩ (.string F2.b0)).setCell ⟨V1.heap.size, 1, none⟩ (.string F2.b1)).setCell ⟨V1.heap.size, 2, none⟩ (.int .i64 F2.e0)).setCell ⟨V1.heap.size, 3, none⟩ (.int .i64 F2.e1)).setCell ⟨V1.heap.size, 4, none⟩ (.int .i64 F2.lim)) := (((((hB.setCell le_xf _).setCell le_xf _).setCell le_xf _).setCell le_xf _).setCell le_xf _)
  generalize (((((V6.setCell ⟨V1.heap.size, 0, none⟩ (.string F2.b0)).setCell ⟨V1.heap.size, 1, none⟩ (.string F2.b1)).setCell ⟨V1.heap.size, 2, none⟩ (.int .i64 F2.e0)).setCell ⟨V1.heap.size, 3, none⟩ (.int .i64 F2.e1)).setCell ⟨V1.heap.size, 4, none⟩ (.int .i64 F2.lim)) = V7 at *
  have cxf := xf.f5
  refine (TI.out _).mono ?_
  rintro e V8 ⟨rfl, hk⟩
  clear cxf
  replace hB := below_seq hB hk
  replace xf := xf.seq hk
  clear hk
  have cxf := xf.f5
  go_wp2_with fail
  refine (TR.out _).mono ?_
  rintro e V9 ⟨rfl, hk⟩
  clear cxf
  replace hB := below_seq hB hk
  replace xf := xf.seq hk
  clear hk
  have xs := Box.new 34 V9 [.int .i64 0, .int .u64 1, .int .u64 2, .int .u64 8]
  have ne_xs_xf : V9.heap.size ≠ V1.heap.size := Nat.ne_of_gt xf.lt
  have le_xs : W.heap.size ≤ V9.heap.size := hB.size
  replace xf := xf.alloc (.cells #[.int .i64 0, .int .u64 1, .int .u64 2, .int .u64 8] 34)
  replace hB := hB.alloc hB.size (.cells #[.int .i64 0, .int .u64 1, .int .u64 2, .int .u64 8] 34)
  have cxf := xf.f5
  have cxs := xs.f4
  go_wp2
  go_ret
  exact ⟨rfl, hB⟩

end Go.Proofs.YtiacdcnpkfpjaaaGreat

/- The reference's functions of layer 4: contracts only. -/
import Derived.Test.YthmpjoiifglbjaaGreatRows
import Derived.Test.YthmpjoiifglbjaaGreatPowerRef
import Derived.Test.YthmpjoiifglbjaaGreatJourFit
import Derived.Test.YthmpjoiifglbjaaGreatPowerDo
import Derived.Test.YthmpjoiifglbjaaGreatFlashDo
import Derived.Test.YthmpjoiifglbjaaGreatIter
import Derived.Test.YthmpjoiifglbjaaGreatBs
import Derived.Test.YthmpjoiifglbjaaGreatInts
import Derived.WalkKit
import Derived.ProofKit
import Derived.OwnWalk
import Derived.Lib.Hide
import Derived.BigQuiet
import Derived.Deep.QuietTactic
import Derived.Deep.RegionHeld3
import Derived.IntWalk
import Derived.WalkLawsBesides
import Derived.WalkMore
import Derived.Deep.Draws
namespace Go.Proofs.YthmpjoiifglbjaaGreat
open Go.RowKit
set_option linter.unusedVariables false
set_option linter.unusedSimpArgs false

theorem ref_play_cut {m : ByteArray} {l : List PwOp} {f : Fl} {k : Nat} {o : PwOp} (h : l[k]? = some o) : playG (k : Int) m (l.drop k) f k = (tearF f o m, k, doErr f o) := by
  obtain ⟨hk, rfl⟩ := List.getElem?_eq_some_iff.1 h
  rw [List.drop_eq_getElem_cons hk, playG, if_pos rfl]

set_option maxRecDepth 100000 in
set_option maxHeartbeats 4000000 in
theorem ref04Play (f : Fl) (l : List PwOp) (A : Option Addr) (c : Nat) (cut : Int) (m : ByteArray) (W : World) (hf : f.fit) (ho : ∀ o ∈ l, o.ok) (hl : OpsAt W A l) (hm : m.size ≤ maxLen) (hc : l.length ≤ c ∧ c ≤ maxLen) :
    Gives Tryz.prog 27 #[.agg #[.string f.b0, .string f.b1, .int .i64 f.e0, .int .i64 f.e1, .int .i64 f.lim], .slice A l.length c, .int .i64 cut, .string m] W (.tuple #[.agg #[.string (playR f l cut m).1.b0, .string (playR f l cut m).1.b1, .int .i64 (playR f l cut m).1.e0, .int .i64 (playR f l cut m).1.e1, .int .i64 (playR f l cut m).1.lim], .int .i64 ((playR f l cut m).2.1 : Int), .int .i64 (playR f l cut m).2.2]) := by
  obtain ⟨hc1, hc2⟩ := hc
  unfold maxLen at hc2
  obtain ⟨a, n, e, HR⟩ : ∃ a n e, playR f l cut m = (a, n, e) := ⟨_, _, _, rfl⟩
  rw [HR]
  dsimp only
  have HOP := Lib.hid (fun (k : Nat) (o : PwOp) (hk : l[k]? = some o) => (show ∃ g off, A = some ⟨g, off, none⟩ ∧ ∀ V : World, Below W.heap.size W V → (V.cell? ⟨g, off + k * 4, none⟩ = some (.int .i64 o.kind) ∧ V.cell? ⟨g, off + k * 4 + 1, none⟩ = some (.int .i64 o.bank) ∧ V.cell? ⟨g, off + k * 4 + 2, none⟩ = some (.int .i64 o.q) ∧ V.cell? ⟨g, off + k * 4 + 3, none⟩ = some (.string o.d)) from by
    have hk1 : k < l.length := (List.getElem?_eq_some_iff.1 hk).1
    obtain ⟨g, off, e, hg, hcl⟩ := hl (by omega)
    refine ⟨g, off, e, fun V hV => ?_⟩
    obtain ⟨a, b, c, d⟩ := hcl k o hk
    exact ⟨(hV.cell (p := ⟨g, _, none⟩) hg).trans a, (hV.cell (p := ⟨g, _, none⟩) hg).trans b, (hV.cell (p := ⟨g, _, none⟩) hg).trans c, (hV.cell (p := ⟨g, _, none⟩) hg).trans d⟩))
  replace HR := Lib.hid HR
  clear hl
  have st := Bs.in2 W 35 [.string f.b0, .string f.b1, .int .i64 f.e0, .int .i64 f.e1, .int .i64 f.lim] 35 [.string ⟨#[]⟩, .string ⟨#[]⟩, .int .i64 0, .int .i64 0, .int .i64 0]
  go_enter Tryz.func27, Tryz.ntmps27
  go_wp2
  replace st := st.name; obtain ⟨V1, hV, st⟩ := st; rw [hV]; clear hV
  go_loopw [11] (fun i w => ∃ (k : Nat) (g : Fl), k ≤ l.length ∧ i = .int .i64 k ∧ g.fit ∧ playR f l cut m = playG cut m (l.drop k) g k ∧ Bs W w [(35, W.heap.size + 1, [.string ⟨#[]⟩, .string ⟨#[]⟩, .int .i64 0, .int .i64 0, .int .i64 0]), (35, W.heap.size, [.string g.b0, .string g.b1, .int .i64 g.e0, .int .i64 g.e1, .int .i64 g.lim])]) (fun i _ => l.length - (intOf i).toNat)
  case atStart => exact ⟨0, f, Nat.zero_le _, rfl, hf, rfl, st⟩
  case round =>
    clear st; obtain ⟨k, g, hk, rfl, hgk, HP, st⟩ := hrel; replace HP := Lib.hid HP
    by_cases hlt : k < l.length
    · obtain ⟨o, hoo⟩ : ∃ o, l[k]? = some o := ⟨_, List.getElem?_eq_getElem hlt⟩
      obtain ⟨gL, off, rfl, HC⟩ := HOP.out k o hoo
      have hok := ho o (List.mem_of_getElem? hoo)
      replace HC := Lib.hid HC
      have j0 : (0 : Int) ≤ (k : Int) := by omega
      have j1 : (k : Int) < (l.length : Int) := by omega
      have j2 : ¬ 9223372036854775807 < (k : Int) + 1 := by omega
      by_cases hkc : (k : Int) = cut
      · subst hkc
        have HS := HR.out.symm.trans (HP.out.trans (ref_play_cut hoo))
        simp only [Prod.mk.injEq] at HS
        obtain ⟨h1, h2, h3⟩ := HS
        subst h1 h2 h3
        have TT := Lib.hid (fun (V : World) => (show Gives Tryz.prog 45 #[.agg #[.string g.b0, .string g.b1, .int .i64 g.e0, .int .i64 g.e1, .int .i64 g.lim], .agg #[.int .i64 o.kind, .int .i64 o.bank, .int .i64 o.q, .string o.d], .string m] V (.tuple #[.agg #[.string (tearF g o m).b0, .string (tearF g o m).b1, .int .i64 (tearF g o m).e0, .int .i64 (tearF g o m).e1, .int .i64 (tearF g o m).lim], .int .i64 (doErr g o)]) from ref04Tear g o m V hgk hok hm))
        have n1 : ((n : Int) == (n : Int)) = true := beq_self_eq_true _
        clear hoo HP HR HOP
        go_wp2_with fail
        replace st := st.drew
        refine rh (fun w => C5 w (W.heap.size) (.string g.b0) (.string g.b1) (.int .i64 g.e0) (.int .i64 g.e1) (.int .i64 g.lim) ∧ w.cell? ⟨gL, off + n * 4, none⟩ = some (.int .i64 o.kind) ∧ w.cell? ⟨gL, off + n * 4 + 1, none⟩ = some (.int .i64 o.bank) ∧ w.cell? ⟨gL, off + n * 4 + 2, none⟩ = some (.int .i64 o.q) ∧ w.cell? ⟨gL, off + n * 4 + 3, none⟩ = some (.string o.d)) ⟨(st.box 1 rfl).c5, (HC.out _ st.lo).1, (HC.out _ st.lo).2.1, (HC.out _ st.lo).2.2.1, (HC.out _ st.lo).2.2.2⟩ fun hHeld => ?_
        generalize wr.drew = V2 at *
        refine tq 0 ?_; refine tq 1 ?_; refine tq 2 ?_; refine tq 3 ?_; refine tq 4 ?_; refine tq 5 ?_
        try simp only [Act.put, l1, l2, l3, l4, l5, l6]
        refine wpAnyH_ready (rs := [6, 10]) (by kernel_rfl) (by simp) (AllReadyH.cons rfl (fun K hK => ?_) (AllReadyH.cons rfl (fun K hK => ?_) (AllReadyH.nil)))
        · have fc := And.intro (st.box 1 rfl).f5 (st.box 0 rfl).f5
          go_simp
          refine callB st (TT.out _) ?_; clear st fc; intro V3 st
          have fc := And.intro (st.box 1 rfl).f5 (st.box 0 rfl).f5
          try go_wp2_with fail
          clear hHeld fc; refine hK.out _ _ ⟨(st.box 1 rfl).c5, (HC.out _ st.lo).1, (HC.out _ st.lo).2.1, (HC.out _ st.lo).2.2.1, (HC.out _ st.lo).2.2.2⟩ fun hHeld => ?_; clear hK K
          try simp only [Act.put, l1, l2, l3, l4, l5, l6]
          refine tq 7 ?_; refine tq 8 ?_; refine tq 9 ?_
          try simp only [Act.put, l1, l2, l3, l4, l5, l6]
          refine rd 10 fun K hK => ?_
          have fc := And.intro (st.box 1 rfl).f5 (st.box 0 rfl).f5
          go_simp
          try go_wp2_with fail
          replace st := st.alloc 35 [.string ⟨#[]⟩, .string ⟨#[]⟩, .int .i64 0, .int .i64 0, .int .i64 0]
          clear fc
          replace st := st.name; obtain ⟨V4, hV, st⟩ := st; rw [hV]; clear hV
          generalize V3.heap.size = g_xb at *
          clear hHeld; refine hK.out _ _ ⟨(st.box 2 rfl).c5, (HC.out _ st.lo).1, (HC.out _ st.lo).2.1, (HC.out _ st.lo).2.2.1, (HC.out _ st.lo).2.2.2⟩ fun hHeld => ?_; clear hK K
          try simp only [Act.put, l1, l2, l3, l4, l5, l6]
          refine rd 11 fun K hK => ?_
          have fc := And.intro (st.box 2 rfl).f5 (And.intro (st.box 1 rfl).f5 (st.box 0 rfl).f5)
          go_simp
          try go_wp2_with fail
          clear fc
          replace st := st.put5 0 (.string (tearF g o m).b0) (.string (tearF g o m).b1) (.int .i64 (tearF g o m).e0) (.int .i64 (tearF g o m).e1) (.int .i64 (tearF g o m).lim) rfl; obtain ⟨V5, hV, st⟩ := st; rw [hV]; clear hV
          clear hHeld; refine hK.out _ _ ⟨(st.box 2 rfl).c5, (HC.out _ st.lo).1, (HC.out _ st.lo).2.1, (HC.out _ st.lo).2.2.1, (HC.out _ st.lo).2.2.2⟩ fun hHeld => ?_; clear hK K
          try simp only [Act.put, l1, l2, l3, l4, l5, l6]
          refine tq 12 ?_
          try simp only [Act.put, l1, l2, l3, l4, l5, l6]
          refine wpAnyH_done (by kernel_rfl) ?_ _; clear hHeld
          have fc := And.intro (st.box 2 rfl).f5 (And.intro (st.box 1 rfl).f5 (st.box 0 rfl).f5)
          go_wp2
          clear fc
          replace st := st.put5 1 (.string (tearF g o m).b0) (.string (tearF g o m).b1) (.int .i64 (tearF g o m).e0) (.int .i64 (tearF g o m).e1) (.int .i64 (tearF g o m).lim) rfl; obtain ⟨V6, hV, st⟩ := st; rw [hV]; clear hV
          have fc := And.intro (st.box 2 rfl).f5 (And.intro (st.box 1 rfl).f5 (st.box 0 rfl).f5)
          exact bodyPost_ret (v := .tuple #[.agg #[.string (tearF g o m).b0, .string (tearF g o m).b1, .int .i64 (tearF g o m).e0, .int .i64 (tearF g o m).e1, .int .i64 (tearF g o m).lim], .int .i64 (n : Int), .int .i64 (doErr g o)]) (by simp [results, Tryz.results27, go_sem, fc]) rfl ⟨rfl, st.lo⟩
        · have fc := And.intro (st.box 1 rfl).f5 (st.box 0 rfl).f5
          go_simp
          try go_wp2_with fail
          replace st := st.alloc 35 [.string ⟨#[]⟩, .string ⟨#[]⟩, .int .i64 0, .int .i64 0, .int .i64 0]
          clear fc
          replace st := st.name; obtain ⟨V3, hV, st⟩ := st; rw [hV]; clear hV
          generalize V2.heap.size = g_xb at *
          clear hHeld; refine hK.out _ _ ⟨(st.box 2 rfl).c5, (HC.out _ st.lo).1, (HC.out _ st.lo).2.1, (HC.out _ st.lo).2.2.1, (HC.out _ st.lo).2.2.2⟩ fun hHeld => ?_; clear hK K
          try simp only [Act.put, l1, l2, l3, l4, l5, l6]
          refine rd 6 fun K hK => ?_
          have fc := And.intro (st.box 2 rfl).f5 (And.intro (st.box 1 rfl).f5 (st.box 0 rfl).f5)
          go_simp
          refine callB st (TT.out _) ?_; clear st fc; intro V4 st
          have fc := And.intro (st.box 2 rfl).f5 (And.intro (st.box 1 rfl).f5 (st.box 0 rfl).f5)
          try go_wp2_with fail
          clear hHeld fc; refine hK.out _ _ ⟨(st.box 2 rfl).c5, (HC.out _ st.lo).1, (HC.out _ st.lo).2.1, (HC.out _ st.lo).2.2.1, (HC.out _ st.lo).2.2.2⟩ fun hHeld => ?_; clear hK K
          try simp only [Act.put, l1, l2, l3, l4, l5, l6]
          refine tq 7 ?_; refine tq 8 ?_; refine tq 9 ?_
          try simp only [Act.put, l1, l2, l3, l4, l5, l6]
          refine rd 11 fun K hK => ?_
          have fc := And.intro (st.box 2 rfl).f5 (And.intro (st.box 1 rfl).f5 (st.box 0 rfl).f5)
          go_simp
          try go_wp2_with fail
          clear fc
          replace st := st.put5 0 (.string (tearF g o m).b0) (.string (tearF g o m).b1) (.int .i64 (tearF g o m).e0) (.int .i64 (tearF g o m).e1) (.int .i64 (tearF g o m).lim) rfl; obtain ⟨V5, hV, st⟩ := st; rw [hV]; clear hV
          clear hHeld; refine hK.out _ _ ⟨(st.box 2 rfl).c5, (HC.out _ st.lo).1, (HC.out _ st.lo).2.1, (HC.out _ st.lo).2.2.1, (HC.out _ st.lo).2.2.2⟩ fun hHeld => ?_; clear hK K
          try simp only [Act.put, l1, l2, l3, l4, l5, l6]
          refine tq 12 ?_
          try simp only [Act.put, l1, l2, l3, l4, l5, l6]
          refine wpAnyH_done (by kernel_rfl) ?_ _; clear hHeld
          have fc := And.intro (st.box 2 rfl).f5 (And.intro (st.box 1 rfl).f5 (st.box 0 rfl).f5)
          go_wp2
          clear fc
          replace st := st.put5 1 (.string (tearF g o m).b0) (.string (tearF g o m).b1) (.int .i64 (tearF g o m).e0) (.int .i64 (tearF g o m).e1) (.int .i64 (tearF g o m).lim) rfl; obtain ⟨V6, hV, st⟩ := st; rw [hV]; clear hV
          have fc := And.intro (st.box 2 rfl).f5 (And.intro (st.box 1 rfl).f5 (st.box 0 rfl).f5)
          exact bodyPost_ret (v := .tuple #[.agg #[.string (tearF g o m).b0, .string (tearF g o m).b1, .int .i64 (tearF g o m).e0, .int .i64 (tearF g o m).e1, .int .i64 (tearF g o m).lim], .int .i64 (n : Int), .int .i64 (doErr g o)]) (by simp [results, Tryz.results27, go_sem, fc]) rfl ⟨rfl, st.lo⟩
      · have n1 : ((k : Int) == cut) = false := beq_eq_false_iff_ne.2 hkc
        replace hkc := Lib.hid hkc
        by_cases he : doErr g o = 0
        · have HS := Lib.hid (HP.out.trans (play_step hoo hkc.out he))
          have hgn := doF_fit hgk o
          have TD := Lib.hid (fun (V : World) => (show Gives Tryz.prog 46 #[.agg #[.string g.b0, .string g.b1, .int .i64 g.e0, .int .i64 g.e1, .int .i64 g.lim], .agg #[.int .i64 o.kind, .int .i64 o.bank, .int .i64 o.q, .string o.d]] V (.tuple #[.agg #[.string (doF g o).b0, .string (doF g o).b1, .int .i64 (doF g o).e0, .int .i64 (doF g o).e1, .int .i64 (doF g o).lim], .int .i64 0]) from by have h := ref04Do g o V hgk hok; rwa [he] at h))
          clear he hoo HP
          generalize doF g o = g' at *
          go_wp2_with fail
          replace st := st.drew
          refine rh (fun w => C5 w (W.heap.size) (.string g.b0) (.string g.b1) (.int .i64 g.e0) (.int .i64 g.e1) (.int .i64 g.lim) ∧ w.cell? ⟨gL, off + k * 4, none⟩ = some (.int .i64 o.kind) ∧ w.cell? ⟨gL, off + k * 4 + 1, none⟩ = some (.int .i64 o.bank) ∧ w.cell? ⟨gL, off + k * 4 + 2, none⟩ = some (.int .i64 o.q) ∧ w.cell? ⟨gL, off + k * 4 + 3, none⟩ = some (.string o.d)) ⟨(st.box 1 rfl).c5, (HC.out _ st.lo).1, (HC.out _ st.lo).2.1, (HC.out _ st.lo).2.2.1, (HC.out _ st.lo).2.2.2⟩ fun hHeld => ?_
          generalize wr.drew = V2 at *
          refine tq 0 ?_; refine tq 1 ?_; refine tq 2 ?_; refine tq 3 ?_; refine tq 4 ?_
          try simp only [Act.put, l1, l2, l3, l4, l5, l6]
          refine wpAnyH_ready (rs := [5, 9]) (by kernel_rfl) (by simp) (AllReadyH.cons rfl (fun K hK => ?_) (AllReadyH.cons rfl (fun K hK => ?_) (AllReadyH.nil)))
          · have fc := And.intro (st.box 1 rfl).f5 (st.box 0 rfl).f5
            go_simp
            refine callB st (TD.out _) ?_; clear st fc; intro V3 st
            have fc := And.intro (st.box 1 rfl).f5 (st.box 0 rfl).f5
            try go_wp2_with fail
            clear hHeld fc; refine hK.out _ _ ⟨(st.box 1 rfl).c5, (HC.out _ st.lo).1, (HC.out _ st.lo).2.1, (HC.out _ st.lo).2.2.1, (HC.out _ st.lo).2.2.2⟩ fun hHeld => ?_; clear hK K
            try simp only [Act.put, l1, l2, l3, l4, l5, l6]
            refine tq 6 ?_; refine tq 7 ?_; refine tq 8 ?_
            try simp only [Act.put, l1, l2, l3, l4, l5, l6]
            refine rd 9 fun K hK => ?_
            have fc := And.intro (st.box 1 rfl).f5 (st.box 0 rfl).f5
            go_simp
            try go_wp2_with fail
            replace st := st.alloc 35 [.string ⟨#[]⟩, .string ⟨#[]⟩, .int .i64 0, .int .i64 0, .int .i64 0]
            clear fc
            replace st := st.name; obtain ⟨V4, hV, st⟩ := st; rw [hV]; clear hV
            generalize V3.heap.size = g_xb at *
            clear hHeld; refine hK.out _ _ ⟨(st.box 2 rfl).c5, (HC.out _ st.lo).1, (HC.out _ st.lo).2.1, (HC.out _ st.lo).2.2.1, (HC.out _ st.lo).2.2.2⟩ fun hHeld => ?_; clear hK K
            try simp only [Act.put, l1, l2, l3, l4, l5, l6]
            refine rd 10 fun K hK => ?_
            have fc := And.intro (st.box 2 rfl).f5 (And.intro (st.box 1 rfl).f5 (st.box 0 rfl).f5)
            go_simp
            try go_wp2_with fail
            clear fc
            replace st := st.put5 0 (.string g'.b0) (.string g'.b1) (.int .i64 g'.e0) (.int .i64 g'.e1) (.int .i64 g'.lim) rfl; obtain ⟨V5, hV, st⟩ := st; rw [hV]; clear hV
            clear hHeld; refine hK.out _ _ ⟨(st.box 2 rfl).c5, (HC.out _ st.lo).1, (HC.out _ st.lo).2.1, (HC.out _ st.lo).2.2.1, (HC.out _ st.lo).2.2.2⟩ fun hHeld => ?_; clear hK K
            try simp only [Act.put, l1, l2, l3, l4, l5, l6]
            refine tq 11 ?_
            try simp only [Act.put, l1, l2, l3, l4, l5, l6]
            refine wpAnyH_done (by kernel_rfl) ?_ _; clear hHeld
            have fc := And.intro (st.box 2 rfl).f5 (And.intro (st.box 1 rfl).f5 (st.box 0 rfl).f5)
            go_wp2
            clear fc
            replace st := st.put5 2 (.string g'.b0) (.string g'.b1) (.int .i64 g'.e0) (.int .i64 g'.e1) (.int .i64 g'.lim) rfl; obtain ⟨V6, hV, st⟩ := st; rw [hV]; clear hV
            go_roundw
            case rel => exact ⟨k + 1, g', by omega, by go_num, hgn, HS.out, st.tl⟩
            case measure => simp [intOf]; omega
          · have fc := And.intro (st.box 1 rfl).f5 (st.box 0 rfl).f5
            go_simp
            try go_wp2_with fail
            replace st := st.alloc 35 [.string ⟨#[]⟩, .string ⟨#[]⟩, .int .i64 0, .int .i64 0, .int .i64 0]
            clear fc
            replace st := st.name; obtain ⟨V3, hV, st⟩ := st; rw [hV]; clear hV
            generalize V2.heap.size = g_xb at *
            clear hHeld; refine hK.out _ _ ⟨(st.box 2 rfl).c5, (HC.out _ st.lo).1, (HC.out _ st.lo).2.1, (HC.out _ st.lo).2.2.1, (HC.out _ st.lo).2.2.2⟩ fun hHeld => ?_; clear hK K
            try simp only [Act.put, l1, l2, l3, l4, l5, l6]
            refine rd 5 fun K hK => ?_
            have fc := And.intro (st.box 2 rfl).f5 (And.intro (st.box 1 rfl).f5 (st.box 0 rfl).f5)
            go_simp
            refine callB st (TD.out _) ?_; clear st fc; intro V4 st
            have fc := And.intro (st.box 2 rfl).f5 (And.intro (st.box 1 rfl).f5 (st.box 0 rfl).f5)
            try go_wp2_with fail
            clear hHeld fc; refine hK.out _ _ ⟨(st.box 2 rfl).c5, (HC.out _ st.lo).1, (HC.out _ st.lo).2.1, (HC.out _ st.lo).2.2.1, (HC.out _ st.lo).2.2.2⟩ fun hHeld => ?_; clear hK K
            try simp only [Act.put, l1, l2, l3, l4, l5, l6]
            refine tq 6 ?_; refine tq 7 ?_; refine tq 8 ?_
            try simp only [Act.put, l1, l2, l3, l4, l5, l6]
            refine rd 10 fun K hK => ?_
            have fc := And.intro (st.box 2 rfl).f5 (And.intro (st.box 1 rfl).f5 (st.box 0 rfl).f5)
            go_simp
            try go_wp2_with fail
            clear fc
            replace st := st.put5 0 (.string g'.b0) (.string g'.b1) (.int .i64 g'.e0) (.int .i64 g'.e1) (.int .i64 g'.lim) rfl; obtain ⟨V5, hV, st⟩ := st; rw [hV]; clear hV
            clear hHeld; refine hK.out _ _ ⟨(st.box 2 rfl).c5, (HC.out _ st.lo).1, (HC.out _ st.lo).2.1, (HC.out _ st.lo).2.2.1, (HC.out _ st.lo).2.2.2⟩ fun hHeld => ?_; clear hK K
            try simp only [Act.put, l1, l2, l3, l4, l5, l6]
            refine tq 11 ?_
            try simp only [Act.put, l1, l2, l3, l4, l5, l6]
            refine wpAnyH_done (by kernel_rfl) ?_ _; clear hHeld
            have fc := And.intro (st.box 2 rfl).f5 (And.intro (st.box 1 rfl).f5 (st.box 0 rfl).f5)
            go_wp2
            clear fc
            replace st := st.put5 2 (.string g'.b0) (.string g'.b1) (.int .i64 g'.e0) (.int .i64 g'.e1) (.int .i64 g'.lim) rfl; obtain ⟨V6, hV, st⟩ := st; rw [hV]; clear hV
            go_roundw
            case rel => exact ⟨k + 1, g', by omega, by go_num, hgn, HS.out, st.tl⟩
            case measure => simp [intOf]; omega
        · have HS := HR.out.symm.trans (HP.out.trans (play_stop hoo hkc.out he))
          simp only [Prod.mk.injEq] at HS
          obtain ⟨rfl, rfl, rfl⟩ := HS
          have TD := Lib.hid (fun (V : World) => (show Gives Tryz.prog 46 #[.agg #[.string a.b0, .string a.b1, .int .i64 a.e0, .int .i64 a.e1, .int .i64 a.lim], .agg #[.int .i64 o.kind, .int .i64 o.bank, .int .i64 o.q, .string o.d]] V (.tuple #[.agg #[.string a.b0, .string a.b1, .int .i64 a.e0, .int .i64 a.e1, .int .i64 a.lim], .int .i64 (doErr a o)]) from by have h := ref04Do a o V hgk hok; rwa [doF_err he] at h))
          have n2 : (doErr a o != 0) = true := bne_iff_ne.2 he
          clear he hoo HP HR HOP
          go_wp2_with fail
          replace st := st.drew
          refine rh (fun w => C5 w (W.heap.size) (.string a.b0) (.string a.b1) (.int .i64 a.e0) (.int .i64 a.e1) (.int .i64 a.lim) ∧ w.cell? ⟨gL, off + n * 4, none⟩ = some (.int .i64 o.kind) ∧ w.cell? ⟨gL, off + n * 4 + 1, none⟩ = some (.int .i64 o.bank) ∧ w.cell? ⟨gL, off + n * 4 + 2, none⟩ = some (.int .i64 o.q) ∧ w.cell? ⟨gL, off + n * 4 + 3, none⟩ = some (.string o.d)) ⟨(st.box 1 rfl).c5, (HC.out _ st.lo).1, (HC.out _ st.lo).2.1, (HC.out _ st.lo).2.2.1, (HC.out _ st.lo).2.2.2⟩ fun hHeld => ?_
          generalize wr.drew = V2 at *
          refine tq 0 ?_; refine tq 1 ?_; refine tq 2 ?_; refine tq 3 ?_; refine tq 4 ?_
          try simp only [Act.put, l1, l2, l3, l4, l5, l6]
          refine wpAnyH_ready (rs := [5, 9]) (by kernel_rfl) (by simp) (AllReadyH.cons rfl (fun K hK => ?_) (AllReadyH.cons rfl (fun K hK => ?_) (AllReadyH.nil)))
          · have fc := And.intro (st.box 1 rfl).f5 (st.box 0 rfl).f5
            go_simp
            refine callB st (TD.out _) ?_; clear st fc; intro V3 st
            have fc := And.intro (st.box 1 rfl).f5 (st.box 0 rfl).f5
            try go_wp2_with fail
            clear hHeld fc; refine hK.out _ _ ⟨(st.box 1 rfl).c5, (HC.out _ st.lo).1, (HC.out _ st.lo).2.1, (HC.out _ st.lo).2.2.1, (HC.out _ st.lo).2.2.2⟩ fun hHeld => ?_; clear hK K
            try simp only [Act.put, l1, l2, l3, l4, l5, l6]
            refine tq 6 ?_; refine tq 7 ?_; refine tq 8 ?_
            try simp only [Act.put, l1, l2, l3, l4, l5, l6]
            refine rd 9 fun K hK => ?_
            have fc := And.intro (st.box 1 rfl).f5 (st.box 0 rfl).f5
            go_simp
            try go_wp2_with fail
            replace st := st.alloc 35 [.string ⟨#[]⟩, .string ⟨#[]⟩, .int .i64 0, .int .i64 0, .int .i64 0]
            clear fc
            replace st := st.name; obtain ⟨V4, hV, st⟩ := st; rw [hV]; clear hV
            generalize V3.heap.size = g_xb at *
            clear hHeld; refine hK.out _ _ ⟨(st.box 2 rfl).c5, (HC.out _ st.lo).1, (HC.out _ st.lo).2.1, (HC.out _ st.lo).2.2.1, (HC.out _ st.lo).2.2.2⟩ fun hHeld => ?_; clear hK K
            try simp only [Act.put, l1, l2, l3, l4, l5, l6]
            refine rd 10 fun K hK => ?_
            have fc := And.intro (st.box 2 rfl).f5 (And.intro (st.box 1 rfl).f5 (st.box 0 rfl).f5)
            go_simp
            try go_wp2_with fail
            clear fc
            replace st := st.put5 0 (.string a.b0) (.string a.b1) (.int .i64 a.e0) (.int .i64 a.e1) (.int .i64 a.lim) rfl; obtain ⟨V5, hV, st⟩ := st; rw [hV]; clear hV
            clear hHeld; refine hK.out _ _ ⟨(st.box 2 rfl).c5, (HC.out _ st.lo).1, (HC.out _ st.lo).2.1, (HC.out _ st.lo).2.2.1, (HC.out _ st.lo).2.2.2⟩ fun hHeld => ?_; clear hK K
            try simp only [Act.put, l1, l2, l3, l4, l5, l6]
            refine tq 11 ?_
            try simp only [Act.put, l1, l2, l3, l4, l5, l6]
            refine wpAnyH_done (by kernel_rfl) ?_ _; clear hHeld
            have fc := And.intro (st.box 2 rfl).f5 (And.intro (st.box 1 rfl).f5 (st.box 0 rfl).f5)
            go_wp2
            clear fc
            replace st := st.put5 1 (.string a.b0) (.string a.b1) (.int .i64 a.e0) (.int .i64 a.e1) (.int .i64 a.lim) rfl; obtain ⟨V6, hV, st⟩ := st; rw [hV]; clear hV
            have fc := And.intro (st.box 2 rfl).f5 (And.intro (st.box 1 rfl).f5 (st.box 0 rfl).f5)
            exact bodyPost_ret (v := .tuple #[.agg #[.string a.b0, .string a.b1, .int .i64 a.e0, .int .i64 a.e1, .int .i64 a.lim], .int .i64 (n : Int), .int .i64 (doErr a o)]) (by simp [results, Tryz.results27, go_sem, fc]) rfl ⟨rfl, st.lo⟩
          · have fc := And.intro (st.box 1 rfl).f5 (st.box 0 rfl).f5
            go_simp
            try go_wp2_with fail
            replace st := st.alloc 35 [.string ⟨#[]⟩, .string ⟨#[]⟩, .int .i64 0, .int .i64 0, .int .i64 0]
            clear fc
            replace st := st.name; obtain ⟨V3, hV, st⟩ := st; rw [hV]; clear hV
            generalize V2.heap.size = g_xb at *
            clear hHeld; refine hK.out _ _ ⟨(st.box 2 rfl).c5, (HC.out _ st.lo).1, (HC.out _ st.lo).2.1, (HC.out _ st.lo).2.2.1, (HC.out _ st.lo).2.2.2⟩ fun hHeld => ?_; clear hK K
            try simp only [Act.put, l1, l2, l3, l4, l5, l6]
            refine rd 5 fun K hK => ?_
            have fc := And.intro (st.box 2 rfl).f5 (And.intro (st.box 1 rfl).f5 (st.box 0 rfl).f5)
            go_simp
            refine callB st (TD.out _) ?_; clear st fc; intro V4 st
            have fc := And.intro (st.box 2 rfl).f5 (And.intro (st.box 1 rfl).f5 (st.box 0 rfl).f5)
            try go_wp2_with fail
            clear hHeld fc; refine hK.out _ _ ⟨(st.box 2 rfl).c5, (HC.out _ st.lo).1, (HC.out _ st.lo).2.1, (HC.out _ st.lo).2.2.1, (HC.out _ st.lo).2.2.2⟩ fun hHeld => ?_; clear hK K
            try simp only [Act.put, l1, l2, l3, l4, l5, l6]
            refine tq 6 ?_; refine tq 7 ?_; refine tq 8 ?_
            try simp only [Act.put, l1, l2, l3, l4, l5, l6]
            refine rd 10 fun K hK => ?_
            have fc := And.intro (st.box 2 rfl).f5 (And.intro (st.box 1 rfl).f5 (st.box 0 rfl).f5)
            go_simp
            try go_wp2_with fail
            clear fc
            replace st := st.put5 0 (.string a.b0) (.string a.b1) (.int .i64 a.e0) (.int .i64 a.e1) (.int .i64 a.lim) rfl; obtain ⟨V5, hV, st⟩ := st; rw [hV]; clear hV
            clear hHeld; refine hK.out _ _ ⟨(st.box 2 rfl).c5, (HC.out _ st.lo).1, (HC.out _ st.lo).2.1, (HC.out _ st.lo).2.2.1, (HC.out _ st.lo).2.2.2⟩ fun hHeld => ?_; clear hK K
            try simp only [Act.put, l1, l2, l3, l4, l5, l6]
            refine tq 11 ?_
            try simp only [Act.put, l1, l2, l3, l4, l5, l6]
            refine wpAnyH_done (by kernel_rfl) ?_ _; clear hHeld
            have fc := And.intro (st.box 2 rfl).f5 (And.intro (st.box 1 rfl).f5 (st.box 0 rfl).f5)
            go_wp2
            clear fc
            replace st := st.put5 1 (.string a.b0) (.string a.b1) (.int .i64 a.e0) (.int .i64 a.e1) (.int .i64 a.lim) rfl; obtain ⟨V6, hV, st⟩ := st; rw [hV]; clear hV
            have fc := And.intro (st.box 2 rfl).f5 (And.intro (st.box 1 rfl).f5 (st.box 0 rfl).f5)
            exact bodyPost_ret (v := .tuple #[.agg #[.string a.b0, .string a.b1, .int .i64 a.e0, .int .i64 a.e1, .int .i64 a.lim], .int .i64 (n : Int), .int .i64 (doErr a o)]) (by simp [results, Tryz.results27, go_sem, fc]) rfl ⟨rfl, st.lo⟩
    · obtain rfl : k = l.length := by omega
      have HS := HR.out.symm.trans (HP.out.trans play_end)
      simp only [Prod.mk.injEq] at HS
      obtain ⟨rfl, rfl, rfl⟩ := HS
      clear HP HR HOP
      have fc := And.intro (st.box 1 rfl).f5 (st.box 0 rfl).f5
      go_wp2
      clear fc
      replace st := st.put5 0 (.string a.b0) (.string a.b1) (.int .i64 a.e0) (.int .i64 a.e1) (.int .i64 a.lim) rfl; obtain ⟨V2, hV, st⟩ := st; rw [hV]; clear hV
      have fc := And.intro (st.box 1 rfl).f5 (st.box 0 rfl).f5
      exact bodyPost_ret (v := .tuple #[.agg #[.string a.b0, .string a.b1, .int .i64 a.e0, .int .i64 a.e1, .int .i64 a.lim], .int .i64 (l.length : Int), .int .i64 0]) (by simp [results, Tryz.results27, go_sem, fc]) rfl ⟨rfl, st.lo⟩

end Go.Proofs.YthmpjoiifglbjaaGreat

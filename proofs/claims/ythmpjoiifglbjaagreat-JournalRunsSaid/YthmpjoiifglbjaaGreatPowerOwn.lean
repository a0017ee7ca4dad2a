/- The program's own Play: contracts only. -/
import Derived.Test.YthmpjoiifglbjaaGreatPowerTear
import Derived.WalkKit
import Derived.WalkMore
import Derived.ScopeJumps
import Derived.ProofKit
import Derived.OwnWalk
import Derived.Lib.Hide
import Derived.BigQuiet
import Derived.Deep.QuietTactic
import Derived.Deep.RegionHeld3
import Derived.IntWalk
import Derived.WalkLawsBesides
namespace Go.Proofs.YthmpjoiifglbjaaGreat
open Go.RowKit
set_option linter.unusedVariables false
set_option linter.unusedSimpArgs false

set_option maxRecDepth 100000 in
set_option maxHeartbeats 4000000 in
theorem own04Play (f : Fl) (l : List PwOp) (A : Option Addr) (c : Nat) (cut : Int) (m : ByteArray) (W : World) (hf : f.fit) (ho : ∀ o ∈ l, o.ok) (hl : OpsAt W A l) (hm : m.size ≤ maxLen) (hc : l.length ≤ c ∧ c ≤ maxLen) :
    Gives Tryz.prog 23 #[.agg #[.string f.b0, .string f.b1, .int .i64 f.e0, .int .i64 f.e1, .int .i64 f.lim], .slice A l.length c, .int .i64 cut, .string m] W (.tuple #[.agg #[.string (playR f l cut m).1.b0, .string (playR f l cut m).1.b1, .int .i64 (playR f l cut m).1.e0, .int .i64 (playR f l cut m).1.e1, .int .i64 (playR f l cut m).1.lim], .int .i64 ((playR f l cut m).2.1 : Int), .int .i64 (playR f l cut m).2.2]) := by
  obtain ⟨hc1, hc2⟩ := hc
  have hm2 := hm
  unfold maxLen at hc2
  obtain ⟨a, n, e, HR⟩ : ∃ a n e, playR f l cut m = (a, n, e) := ⟨_, _, _, rfl⟩
  rw [HR]
  dsimp only
  have HOP := Lib.hid (fun (k : Nat) (o : PwOp) (hk : l[k]? = some o) => (show ∃ g off, A = some ⟨g, off, none⟩ ∧ ∀ V : World, Below W.heap.size W V → (V.cell? ⟨g, off + k * 4, none⟩ = some (.int .i64 o.kind) ∧ V.cell? ⟨g, off + k * 4 + 1, none⟩ = some (.int .i64 o.bank) ∧ V.cell? ⟨g, off + k * 4 + 2, none⟩ = some (.int .i64 o.q) ∧ V.cell? ⟨g, off + k * 4 + 3, none⟩ = some (.string o.d)) from by
    have hk1 : k < l.length := (List.getElem?_eq_some_iff.1 hk).1
    obtain ⟨g, off, e, hg, hcl⟩ := hl (by omega)
    refine ⟨g, off, e, fun V hV => ?_⟩
    obtain ⟨a, b, c, d⟩ := hcl k o hk
    exact ⟨(hV.cell (p := ⟨g, _, none⟩) hg).trans a, (hV.cell (p := ⟨g, _, none⟩) hg).trans b, (hV.cell (p := ⟨g, _, none⟩) hg).trans c, (hV.cell (p := ⟨g, _, none⟩) hg).trans d⟩))
  replace HR := Lib.hid HR
  replace hl := Lib.hid hl
  have st := Bs.in2 W 25 [.string f.b0, .string f.b1, .int .i64 f.e0, .int .i64 f.e1, .int .i64 f.lim] 25 [.string ⟨#[]⟩, .string ⟨#[]⟩, .int .i64 0, .int .i64 0, .int .i64 0]
  go_enter Tryz.func23, Tryz.ntmps23
  go_wp2
  replace st := st.name; obtain ⟨V1, hV, st⟩ := st; rw [hV]; clear hV
  refine wp_scope_jumps 0 (fun a' w' => ∃ (u5 u6 u7 u9 u10 u11 u12 u13 u14 u15 u16 u17 u18 u19 u20 u21 u22 u23 u24 u25 u26 u27 u28 u29 u30 u31 u32 u33 u34 u35 u36 u37 u38 u39 u40 u41 u42 u43 u44 u45 u46 u47 u48 u49 u50 u51 : Value) (k : Nat) (g : Fl), a' = { tmps := #[.agg #[.string f.b0, .string f.b1, .int .i64 f.e0, .int .i64 f.e1, .int .i64 f.lim], .slice A l.length c, .int .i64 cut, .string m, .pointer (some ⟨W.heap.size, 0, none⟩), u5, u6, u7, .pointer (some ⟨W.heap.size + 1, 0, none⟩), u9, u10, u11, u12, u13, u14, u15, u16, u17, u18, u19, u20, u21, u22, u23, u24, u25, u26, u27, u28, u29, u30, u31, u32, u33, u34, u35, u36, u37, u38, u39, u40, u41, u42, u43, u44, u45, u46, u47, u48, u49, u50, u51], defers := [] } ∧ cut = (k : Int) ∧ k < l.length ∧ g.fit ∧ playR f l cut m = playG cut m (l.drop k) g k ∧ Bs W w' [(25, W.heap.size + 1, [.string ⟨#[]⟩, .string ⟨#[]⟩, .int .i64 0, .int .i64 0, .int .i64 0]), (25, W.heap.size, [.string g.b0, .string g.b1, .int .i64 g.e0, .int .i64 g.e1, .int .i64 g.lim])]) (fun _ _ => 0) rfl ?_ ?_
  · go_wp2
    go_loopw [16] (fun i w => ∃ (k : Nat) (g : Fl), k ≤ l.length ∧ i = .int .i64 k ∧ g.fit ∧ playR f l cut m = playG cut m (l.drop k) g k ∧ Bs W w [(25, W.heap.size + 1, [.string ⟨#[]⟩, .string ⟨#[]⟩, .int .i64 0, .int .i64 0, .int .i64 0]), (25, W.heap.size, [.string g.b0, .string g.b1, .int .i64 g.e0, .int .i64 g.e1, .int .i64 g.lim])]) (fun i _ => l.length - (intOf i).toNat)
    case atStart => exact ⟨0, f, Nat.zero_le _, rfl, hf, rfl, st⟩
    case round =>
      clear st; obtain ⟨k, g, hk, rfl, hgk, HP, st⟩ := hrel
      replace HP := Lib.hid HP
      by_cases hlt : k < l.length
      · obtain ⟨o, hoo⟩ : ∃ o, l[k]? = some o := ⟨_, List.getElem?_eq_getElem hlt⟩
        obtain ⟨gL, off, rfl, HC⟩ := HOP.out k o hoo
        have hok := ho o (List.mem_of_getElem? hoo)
        obtain ⟨y0, y1, y2, y3⟩ := HC wr st.lo
        replace HC := Lib.hid HC
        have j0 : (0 : Int) ≤ (k : Int) := by omega
        have j1 : (k : Int) < (l.length : Int) := by omega
        have j2 : ¬ 9223372036854775807 < (k : Int) + 1 := by omega
        by_cases hkc : (k : Int) = cut
        · have hkc2 := Lib.hid hkc
          have n1 : ((k : Int) == cut) = true := beq_iff_eq.2 hkc
          clear hkc hoo
          replace st := st.alloc 95 [.int .i64 o.kind, .int .i64 o.bank, .int .i64 o.q, .string o.d]
          have fc := And.intro (st.box 2 rfl).f5 (And.intro (st.box 1 rfl).f5 (st.box 0 rfl).f4)
          go_wp2
          go_step3
          exact ⟨rfl, _, _, _, _, _, _, _, _, _, _, _, _, _, _, _, _, _, _, _, _, _, _, _, _, _, _, _, _, _, _, _, _, _, _, _, _, _, _, _, _, _, _, _, _, _, _, k, g, rfl, hkc2.out.symm, hlt, hgk, HP.out, st.tl⟩
        · have hkc2 := Lib.hid hkc
          have n1 : ((k : Int) == cut) = false := beq_eq_false_iff_ne.2 hkc
          clear hkc
          by_cases he : doErr g o = 0
          · have HS := Lib.hid (HP.out.trans (play_step hoo hkc2.out he))
            have hgn := doF_fit hgk o
            have TD := Lib.hid (fun (V : World) => (show Gives Tryz.prog 38 #[.agg #[.string g.b0, .string g.b1, .int .i64 g.e0, .int .i64 g.e1, .int .i64 g.lim], .agg #[.int .i64 o.kind, .int .i64 o.bank, .int .i64 o.q, .string o.d]] V (.tuple #[.agg #[.string (doF g o).b0, .string (doF g o).b1, .int .i64 (doF g o).e0, .int .i64 (doF g o).e1, .int .i64 (doF g o).lim], .int .i64 0]) from by have h := own04Do g o V hgk hok; rwa [he] at h))
            clear he hoo HP
            generalize doF g o = g' at *
            replace st := st.alloc 95 [.int .i64 o.kind, .int .i64 o.bank, .int .i64 o.q, .string o.d]
            have fc := And.intro (st.box 2 rfl).f5 (And.intro (st.box 1 rfl).f5 (st.box 0 rfl).f4)
            go_wp2_with fail; refine callB st (TD.out _) ?_; clear st fc; intro V2 st
            have fc := And.intro (st.box 2 rfl).f5 (And.intro (st.box 1 rfl).f5 (st.box 0 rfl).f4)
            go_wp2
            clear fc
            replace st := st.put5 2 (.string g'.b0) (.string g'.b1) (.int .i64 g'.e0) (.int .i64 g'.e1) (.int .i64 g'.lim) rfl; obtain ⟨V3, hV, st⟩ := st; rw [hV]; clear hV
            go_roundw
            case rel => exact ⟨k + 1, g', by omega, by go_num, hgn, HS.out, st.tl⟩
            case measure => simp [intOf]; omega
          · have HS := HR.out.symm.trans (HP.out.trans (play_stop hoo hkc2.out he))
            simp only [Prod.mk.injEq] at HS
            obtain ⟨rfl, rfl, rfl⟩ := HS
            have TD := Lib.hid (fun (V : World) => (show Gives Tryz.prog 38 #[.agg #[.string a.b0, .string a.b1, .int .i64 a.e0, .int .i64 a.e1, .int .i64 a.lim], .agg #[.int .i64 o.kind, .int .i64 o.bank, .int .i64 o.q, .string o.d]] V (.tuple #[.agg #[.string a.b0, .string a.b1, .int .i64 a.e0, .int .i64 a.e1, .int .i64 a.lim], .int .i64 (doErr a o)]) from by have h := own04Do a o V hgk hok; rwa [doF_err he] at h))
            have n2 : (doErr a o != 0) = true := bne_iff_ne.2 he
            clear he hoo HP HR
            replace st := st.alloc 95 [.int .i64 o.kind, .int .i64 o.bank, .int .i64 o.q, .string o.d]
            have fc := And.intro (st.box 2 rfl).f5 (And.intro (st.box 1 rfl).f5 (st.box 0 rfl).f4)
            go_wp2_with fail; refine callB st (TD.out _) ?_; clear st fc; intro V2 st
            have fc := And.intro (st.box 2 rfl).f5 (And.intro (st.box 1 rfl).f5 (st.box 0 rfl).f4)
            go_wp2
            clear fc
            replace st := st.put5 2 (.string a.b0) (.string a.b1) (.int .i64 a.e0) (.int .i64 a.e1) (.int .i64 a.lim) rfl; obtain ⟨V3, hV, st⟩ := st; rw [hV]; clear hV
            replace st := st.put5 1 (.string a.b0) (.string a.b1) (.int .i64 a.e0) (.int .i64 a.e1) (.int .i64 a.lim) rfl; obtain ⟨V4, hV, st⟩ := st; rw [hV]; clear hV
            have fc := And.intro (st.box 2 rfl).f5 (And.intro (st.box 1 rfl).f5 (st.box 0 rfl).f4)
            simp only [Exit.jump]
            exact bodyPost_ret (v := .tuple #[.agg #[.string a.b0, .string a.b1, .int .i64 a.e0, .int .i64 a.e1, .int .i64 a.lim], .int .i64 (n : Int), .int .i64 (doErr a o)]) (by simp [results, Tryz.results23, go_sem, fc]) rfl ⟨rfl, st.lo⟩
      · obtain rfl : k = l.length := by omega
        have HS := HR.out.symm.trans (HP.out.trans play_end)
        simp only [Prod.mk.injEq] at HS
        obtain ⟨rfl, rfl, rfl⟩ := HS
        clear HP HR
        have fc := And.intro (st.box 1 rfl).f5 (st.box 0 rfl).f5
        go_wp2
        clear fc
        replace st := st.put5 0 (.string a.b0) (.string a.b1) (.int .i64 a.e0) (.int .i64 a.e1) (.int .i64 a.lim) rfl; obtain ⟨V2, hV, st⟩ := st; rw [hV]; clear hV
        have fc := And.intro (st.box 1 rfl).f5 (st.box 0 rfl).f5
        try simp only [Exit.jump]
        exact bodyPost_ret (v := .tuple #[.agg #[.string a.b0, .string a.b1, .int .i64 a.e0, .int .i64 a.e1, .int .i64 a.lim], .int .i64 (l.length : Int), .int .i64 0]) (by simp [results, Tryz.results23, go_sem, fc]) rfl ⟨rfl, st.lo⟩
  · rintro a' w' ⟨u5, u6, u7, u9, u10, u11, u12, u13, u14, u15, u16, u17, u18, u19, u20, u21, u22, u23, u24, u25, u26, u27, u28, u29, u30, u31, u32, u33, u34, u35, u36, u37, u38, u39, u40, u41, u42, u43, u44, u45, u46, u47, u48, u49, u50, u51, k, g, rfl, rfl, hlt, hgk, HP, st⟩
    obtain ⟨o, hoo⟩ : ∃ o, l[k]? = some o := ⟨_, List.getElem?_eq_getElem hlt⟩
    have HS := HR.out.symm.trans (HP.trans (play_cut hoo))
    simp only [Prod.mk.injEq] at HS
    obtain ⟨h1, h2, h3⟩ := HS
    subst h1 h2 h3
    obtain ⟨gL, off, rfl, HC⟩ := HOP.out n o hoo
    have hok := ho o (List.mem_of_getElem? hoo)
    replace HC := Lib.hid HC
    have j0 : (0 : Int) ≤ (n : Int) := by omega
    have j1 : (n : Int) < (l.length : Int) := by omega
    have TT := Lib.hid (fun (W : World) => own04Tear g o m W hgk hok hm)
    clear hoo HP HR
    dsimp only
    have fc := And.intro (st.box 1 rfl).f5 (st.box 0 rfl).f5
    go_wp2_with fail
    clear fc
    replace st := st.drew
    refine rh (fun w => w.cell? ⟨gL, off + n * 4, none⟩ = some (.int .i64 o.kind) ∧ w.cell? ⟨gL, off + n * 4 + 1, none⟩ = some (.int .i64 o.bank) ∧ w.cell? ⟨gL, off + n * 4 + 2, none⟩ = some (.int .i64 o.q) ∧ w.cell? ⟨gL, off + n * 4 + 3, none⟩ = some (.string o.d)) ⟨(HC.out _ st.lo).1, (HC.out _ st.lo).2.1, (HC.out _ st.lo).2.2.1, (HC.out _ st.lo).2.2.2⟩ fun hHeld => ?_
    generalize w'.drew = V2 at *
    refine tq 1 ?_; refine tq 2 ?_; refine tq 3 ?_; refine tq 4 ?_; refine tq 5 ?_
    try simp only [Act.put, l1, l2, l3, l4, l5, l6]
    refine rd 0 fun K hK => ?_
    have fc := And.intro (st.box 1 rfl).f5 (st.box 0 rfl).f5
    go_simp
    try go_wp2_with fail
    clear hHeld fc; refine hK.out _ _ ⟨(HC.out _ st.lo).1, (HC.out _ st.lo).2.1, (HC.out _ st.lo).2.2.1, (HC.out _ st.lo).2.2.2⟩ fun hHeld => ?_; clear hK K
    try simp only [Act.put, l1, l2, l3, l4, l5, l6]
    refine rd 6 fun K hK => ?_
    have fc := And.intro (st.box 1 rfl).f5 (st.box 0 rfl).f5
    go_simp
    refine (TT.out _).mono ?_
    rintro e V3 ⟨rfl, hk⟩
    clear fc
    replace st := st.seq hk
    clear hk
    have fc := And.intro (st.box 1 rfl).f5 (st.box 0 rfl).f5
    try go_wp2_with fail
    clear hHeld fc; refine hK.out _ _ ⟨(HC.out _ st.lo).1, (HC.out _ st.lo).2.1, (HC.out _ st.lo).2.2.1, (HC.out _ st.lo).2.2.2⟩ fun hHeld => ?_; clear hK K
    try simp only [Act.put, l1, l2, l3, l4, l5, l6]
    refine tq 7 ?_; refine tq 8 ?_; refine tq 9 ?_
    try simp only [Act.put, l1, l2, l3, l4, l5, l6]
    refine rd 10 fun K hK => ?_
    have fc := And.intro (st.box 1 rfl).f5 (st.box 0 rfl).f5
    go_simp
    try go_wp2_with fail
    clear fc
    replace st := st.put5 1 (.string (tearF g o m).b0) (.string (tearF g o m).b1) (.int .i64 (tearF g o m).e0) (.int .i64 (tearF g o m).e1) (.int .i64 (tearF g o m).lim) rfl; obtain ⟨V4, hV, st⟩ := st; rw [hV]; clear hV
    clear hHeld; refine hK.out _ _ ⟨(HC.out _ st.lo).1, (HC.out _ st.lo).2.1, (HC.out _ st.lo).2.2.1, (HC.out _ st.lo).2.2.2⟩ fun hHeld => ?_; clear hK K
    try simp only [Act.put, l1, l2, l3, l4, l5, l6]
    refine tq 11 ?_
    try simp only [Act.put, l1, l2, l3, l4, l5, l6]
    refine wpAnyH_done (by kernel_rfl) ?_ _; clear hHeld
    have fc := And.intro (st.box 1 rfl).f5 (st.box 0 rfl).f5
    go_wp2
    clear fc
    replace st := st.put5 0 (.string (tearF g o m).b0) (.string (tearF g o m).b1) (.int .i64 (tearF g o m).e0) (.int .i64 (tearF g o m).e1) (.int .i64 (tearF g o m).lim) rfl; obtain ⟨V5, hV, st⟩ := st; rw [hV]; clear hV
    have fc := And.intro (st.box 1 rfl).f5 (st.box 0 rfl).f5
    try simp only [Exit.jump]
    exact bodyPost_ret (v := .tuple #[.agg #[.string (tearF g o m).b0, .string (tearF g o m).b1, .int .i64 (tearF g o m).e0, .int .i64 (tearF g o m).e1, .int .i64 (tearF g o m).lim], .int .i64 (n : Int), .int .i64 (doErr g o)]) (by simp [results, Tryz.results23, go_sem, fc]) rfl ⟨rfl, st.lo⟩

end Go.Proofs.YthmpjoiifglbjaaGreat

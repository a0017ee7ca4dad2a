/- The reference's programs and erases of layer 3: contracts only. -/
import Derived.Test.YthmpjoiifglbjaaGreatFlashPlain
import Derived.Test.YthmpjoiifglbjaaGreatFlashRef
import Derived.Test.YthmpjoiifglbjaaGreatFlashRead
import Derived.Test.YthmpjoiifglbjaaGreatIter
import Derived.Test.YthmpjoiifglbjaaGreatBs
import Derived.Deep.RegionHeld3
import Derived.WalkLawsBesides
import Derived.WalkSpells
import Derived.IntWalk
import Derived.Lib.Hide
namespace Go.Proofs.YthmpjoiifglbjaaGreat
open Go.RowKit
set_option linter.unusedVariables false
set_option linter.unusedSimpArgs false

set_option maxRecDepth 100000 in
set_option maxHeartbeats 4000000 in
theorem ref03Reads (f : Fl) (bank q n : Int) (W : World) (hf : f.ok) (hq : -9223372036854775808 ≤ q ∧ q ≤ 9223372036854775807) (hn : -9223372036854775808 ≤ n ∧ n ≤ 9223372036854775807) :
    Gives Tryz.prog 100 #[.agg #[.string f.b0, .string f.b1, .int .i64 f.e0, .int .i64 f.e1, .int .i64 f.lim], .int .i64 bank, .int .i64 q, .int .i64 n] W (.int .i64 (readErr f bank q n)) := by
  have z0 := hf.s0
  have z1 := hf.s1
  unfold maxLen at z0 z1
  by_cases hb : bank ≠ 0 ∧ bank ≠ 1
  · have H := Lib.hid (show readErr f bank q n = 1 from if_pos hb)
    have m0 : (bank != 0) = true := bne_iff_ne.2 hb.1
    have m1 : (bank != 1) = true := bne_iff_ne.2 hb.2
    rw [H.out]
    clear hb H
    have st := Bs.in1 W 35 [.string f.b0, .string f.b1, .int .i64 f.e0, .int .i64 f.e1, .int .i64 f.lim]
    go_enter Tryz.func100, Tryz.ntmps100
    have fc := (st.box 0 rfl).f5
    go_wp2; go_ret; exact ⟨rfl, st.lo⟩
  · have hb2 : bank = 0 ∨ bank = 1 := by omega
    have HI := fun (h : 0 ≤ q ∧ 0 ≤ n ∧ q + n ≤ (f.bank bank).size) => (show readErr f bank q n = 0 from readErr_zero.2 ⟨hb2, h⟩)
    have HO := fun (h : ¬ (0 ≤ q ∧ 0 ≤ n ∧ q + n ≤ (f.bank bank).size)) => (show readErr f bank q n = 2 from by unfold readErr; rw [if_neg hb, if_neg h])
    clear hb
    rcases hb2 with rfl | rfl
    · rw [show f.bank 0 = f.b0 from rfl] at HI HO
      generalize readErr f 0 q n = E at *
      by_cases c : q < 0
      · have hE := HO (by omega)
        subst hE
        clear HI HO
        have st := Bs.in1 W 35 [.string f.b0, .string f.b1, .int .i64 f.e0, .int .i64 f.e1, .int .i64 f.lim]
        go_enter Tryz.func100, Tryz.ntmps100
        have fc := (st.box 0 rfl).f5
        go_wp2; go_ret; exact ⟨rfl, st.lo⟩
      · have y6 := c
        clear c
        by_cases c : n < 0
        · have hE := HO (by omega)
          subst hE
          clear HI HO
          have st := Bs.in1 W 35 [.string f.b0, .string f.b1, .int .i64 f.e0, .int .i64 f.e1, .int .i64 f.lim]
          go_enter Tryz.func100, Tryz.ntmps100
          have fc := (st.box 0 rfl).f5
          go_wp2; go_ret; exact ⟨rfl, st.lo⟩
        · have y8 := c
          clear c
          by_cases c : (f.b0.size : Int) < q
          · have hE := HO (by omega)
            subst hE
            have y2 : q > (f.b0.size : Int) := by omega
            clear HI HO
            have st := Bs.in1 W 35 [.string f.b0, .string f.b1, .int .i64 f.e0, .int .i64 f.e1, .int .i64 f.lim]
            go_enter Tryz.func100, Tryz.ntmps100
            have fc := (st.box 0 rfl).f5
            go_wp2; go_ret; exact ⟨rfl, st.lo⟩
          · have y10 := c
            clear c
            have y2 : ¬ q > (f.b0.size : Int) := by omega
            have w1 : wrap64 ((f.b0.size : Int) - q) = (f.b0.size : Int) - q := by unfold wrap64; omega
            by_cases c : (f.b0.size : Int) - q < n
            · have hE := HO (by omega)
              subst hE
              have y3 : n > (f.b0.size : Int) - q := by omega
              clear HI HO c
              have st := Bs.in1 W 35 [.string f.b0, .string f.b1, .int .i64 f.e0, .int .i64 f.e1, .int .i64 f.lim]
              go_enter Tryz.func100, Tryz.ntmps100
              have fc := (st.box 0 rfl).f5
              go_wp2; go_ret; exact ⟨rfl, st.lo⟩
            · have hE := HI (by omega)
              subst hE
              have y3 : ¬ n > (f.b0.size : Int) - q := by omega
              clear HI HO c
              have st := Bs.in1 W 35 [.string f.b0, .string f.b1, .int .i64 f.e0, .int .i64 f.e1, .int .i64 f.lim]
              go_enter Tryz.func100, Tryz.ntmps100
              have fc := (st.box 0 rfl).f5
              go_wp2; go_ret; exact ⟨rfl, st.lo⟩
    · rw [show f.bank 1 = f.b1 from rfl] at HI HO
      generalize readErr f 1 q n = E at *
      by_cases c : q < 0
      · have hE := HO (by omega)
        subst hE
        clear HI HO
        have st := Bs.in1 W 35 [.string f.b0, .string f.b1, .int .i64 f.e0, .int .i64 f.e1, .int .i64 f.lim]
        go_enter Tryz.func100, Tryz.ntmps100
        have fc := (st.box 0 rfl).f5
        go_wp2; go_ret; exact ⟨rfl, st.lo⟩
      · have y6 := c
        clear c
        by_cases c : n < 0
        · have hE := HO (by omega)
          subst hE
          clear HI HO
          have st := Bs.in1 W 35 [.string f.b0, .string f.b1, .int .i64 f.e0, .int .i64 f.e1, .int .i64 f.lim]
          go_enter Tryz.func100, Tryz.ntmps100
          have fc := (st.box 0 rfl).f5
          go_wp2; go_ret; exact ⟨rfl, st.lo⟩
        · have y8 := c
          clear c
          by_cases c : (f.b1.size : Int) < q
          · have hE := HO (by omega)
            subst hE
            have y2 : q > (f.b1.size : Int) := by omega
            clear HI HO
            have st := Bs.in1 W 35 [.string f.b0, .string f.b1, .int .i64 f.e0, .int .i64 f.e1, .int .i64 f.lim]
            go_enter Tryz.func100, Tryz.ntmps100
            have fc := (st.box 0 rfl).f5
            go_wp2; go_ret; exact ⟨rfl, st.lo⟩
          · have y10 := c
            clear c
            have y2 : ¬ q > (f.b1.size : Int) := by omega
            have w1 : wrap64 ((f.b1.size : Int) - q) = (f.b1.size : Int) - q := by unfold wrap64; omega
            by_cases c : (f.b1.size : Int) - q < n
            · have hE := HO (by omega)
              subst hE
              have y3 : n > (f.b1.size : Int) - q := by omega
              clear HI HO c
              have st := Bs.in1 W 35 [.string f.b0, .string f.b1, .int .i64 f.e0, .int .i64 f.e1, .int .i64 f.lim]
              go_enter Tryz.func100, Tryz.ntmps100
              have fc := (st.box 0 rfl).f5
              go_wp2; go_ret; exact ⟨rfl, st.lo⟩
            · have hE := HI (by omega)
              subst hE
              have y3 : ¬ n > (f.b1.size : Int) - q := by omega
              clear HI HO c
              have st := Bs.in1 W 35 [.string f.b0, .string f.b1, .int .i64 f.e0, .int .i64 f.e1, .int .i64 f.lim]
              go_enter Tryz.func100, Tryz.ntmps100
              have fc := (st.box 0 rfl).f5
              go_wp2; go_ret; exact ⟨rfl, st.lo⟩

theorem prog_nums {p n s m : Nat} (h : p + n ≤ s) (hs : s ≤ 140737488351232) (hm : m = n) :
    wrap64 ((p : Int) + (n : Int)) = ((p + n : Nat) : Int) ∧ (p : Int) + (n : Int) = ((p + n : Nat) : Int) ∧ (0 : Int) ≤ (p : Int) ∧ (p : Int) ≤ (s : Int) ∧ (p : Int) ≤ ((p + n : Nat) : Int) ∧ ((p + n : Nat) : Int) ≤ (s : Int) ∧ (0 : Int) ≤ ((p + n : Nat) : Int) ∧
    ¬ 9223372036854775807 < p + m ∧ ¬ 9223372036854775807 < p + m + (s - (p + n)) ∧ ¬ 9223372036854775807 < min p s + m ∧ ¬ 9223372036854775807 < min p s + m + (s - (p + n)) := by
  refine ⟨by unfold wrap64; omega, ?_, ?_, ?_, ?_, ?_, ?_, ?_, ?_, ?_, ?_⟩ <;> omega

set_option maxRecDepth 100000 in
set_option maxHeartbeats 4000000 in
theorem ref03Program (f : Fl) (bank q : Int) (d : ByteArray) (W : World) (hf : f.fit) (hq : -9223372036854775808 ≤ q ∧ q ≤ 9223372036854775807) (hd : d.size ≤ maxLen) :
    Gives Tryz.prog 73 #[.agg #[.string f.b0, .string f.b1, .int .i64 f.e0, .int .i64 f.e1, .int .i64 f.lim], .int .i64 bank, .int .i64 q, .string d] W (.tuple #[.agg #[.string (progF f bank q d).b0, .string (progF f bank q d).b1, .int .i64 (progF f bank q d).e0, .int .i64 (progF f bank q d).e1, .int .i64 (progF f bank q d).lim], .int .i64 (progErr f bank q d)]) := by
  have z0 := hf.z0
  have z1 := hf.z1
  have hf := hf.ok
  by_cases he : readErr f bank q d.size = 0
  · obtain ⟨hb, h0, h1, h2⟩ := readErr_zero.1 he
    have TR := Lib.hid (fun (V : World) => (show Gives Tryz.prog 100 #[.agg #[.string f.b0, .string f.b1, .int .i64 f.e0, .int .i64 f.e1, .int .i64 f.lim], .int .i64 bank, .int .i64 q, .int .i64 (d.size : Int)] V (.int .i64 0) from by have h := ref03Reads f bank q d.size V hf hq (by unfold maxLen at hd; omega); rwa [he] at h))
    obtain ⟨p, rfl⟩ : ∃ p : Nat, q = (p : Int) := ⟨q.toNat, by omega⟩
    have k1 : ((p : Int)).tmod 2 = (p : Int) % 2 := Int.tmod_eq_emod_of_nonneg (by omega)
    have k2 : ((d.size : Int)).tmod 2 = (d.size : Int) % 2 := Int.tmod_eq_emod_of_nonneg (by omega)
    by_cases ha : (p : Int) % 2 ≠ 0 ∨ d.size % 2 ≠ 0
    · have hpe : progErr f bank p d = 3 := by unfold progErr; rw [if_neg (by rw [he]; decide), if_pos ha]
      have hpf : progF f bank p d = f := progF_none (by rw [hpe]; decide)
      rw [hpe, hpf]
      clear hpe hpf he hb h0 h1 h2
      by_cases ha1 : (p : Int) % 2 = 0
      · have m1 : ((p : Int) % 2 != 0) = false := by rw [ha1]; rfl
        have m2 : ((d.size : Int) % 2 != 0) = true := bne_iff_ne.2 (by omega)
        clear ha ha1
        have st := Bs.in2 W 35 [.string f.b0, .string f.b1, .int .i64 f.e0, .int .i64 f.e1, .int .i64 f.lim] 35 [.string ⟨#[]⟩, .string ⟨#[]⟩, .int .i64 0, .int .i64 0, .int .i64 0]
        go_enter Tryz.func73, Tryz.ntmps73
        have fc := And.intro (st.box 1 rfl).f5 (st.box 0 rfl).f5
        go_wp2_with fail; refine callB st (TR.out _) ?_; clear st fc; intro V1 st
        have fc := And.intro (st.box 1 rfl).f5 (st.box 0 rfl).f5
        go_wp2
        clear fc
        replace st := st.put5 0 (.string f.b0) (.string f.b1) (.int .i64 f.e0) (.int .i64 f.e1) (.int .i64 f.lim) rfl; obtain ⟨V2, hV, st⟩ := st; rw [hV]; clear hV
        have fc := And.intro (st.box 1 rfl).f5 (st.box 0 rfl).f5
        exact bodyPost_ret (v := .tuple #[.agg #[.string f.b0, .string f.b1, .int .i64 f.e0, .int .i64 f.e1, .int .i64 f.lim], .int .i64 3]) (by simp [results, Tryz.results73, go_sem, fc]) rfl ⟨rfl, st.lo⟩
      · have m1 : ((p : Int) % 2 != 0) = true := bne_iff_ne.2 ha1
        clear ha ha1
        have st := Bs.in2 W 35 [.string f.b0, .string f.b1, .int .i64 f.e0, .int .i64 f.e1, .int .i64 f.lim] 35 [.string ⟨#[]⟩, .string ⟨#[]⟩, .int .i64 0, .int .i64 0, .int .i64 0]
        go_enter Tryz.func73, Tryz.ntmps73
        have fc := And.intro (st.box 1 rfl).f5 (st.box 0 rfl).f5
        go_wp2_with fail; refine callB st (TR.out _) ?_; clear st fc; intro V1 st
        have fc := And.intro (st.box 1 rfl).f5 (st.box 0 rfl).f5
        go_wp2
        clear fc
        replace st := st.put5 0 (.string f.b0) (.string f.b1) (.int .i64 f.e0) (.int .i64 f.e1) (.int .i64 f.lim) rfl; obtain ⟨V2, hV, st⟩ := st; rw [hV]; clear hV
        have fc := And.intro (st.box 1 rfl).f5 (st.box 0 rfl).f5
        exact bodyPost_ret (v := .tuple #[.agg #[.string f.b0, .string f.b1, .int .i64 f.e0, .int .i64 f.e1, .int .i64 f.lim], .int .i64 3]) (by simp [results, Tryz.results73, go_sem, fc]) rfl ⟨rfl, st.lo⟩
    · have hpe : progErr f bank p d = 0 := by unfold progErr; rw [if_neg (by rw [he]; decide), if_neg ha]
      have m1 : ((p : Int) % 2 != 0) = false := by rw [show (p : Int) % 2 = 0 from by omega]; rfl
      have m2 : ((d.size : Int) % 2 != 0) = false := by rw [show (d.size : Int) % 2 = 0 from by omega]; rfl
      have hpf : progF f bank p d = f.setBank bank (splice (f.bank bank) p d) := by unfold progF; rw [if_pos hpe, Int.toNat_natCast]
      rw [hpe, hpf]
      clear hpe hpf ha he
      rcases hb with rfl | rfl
      · rw [show f.bank 0 = f.b0 from rfl] at h2 ⊢
        have TA := Lib.hid (fun (V : World) => refAnd (f.b0.extract p (p + d.size)) d V (by simp; omega) hd)
        have hM : (andB (f.b0.extract p (p + d.size)) d).size = d.size := by rw [andB_size]; simp; omega
        unfold splice
        generalize andB (f.b0.extract p (p + d.size)) d = M at *
        have hfit : p + d.size ≤ f.b0.size := by clear k1 k2 m1 m2 hq; omega
        obtain ⟨w1, w2, v0, v1, v2, v3, v4, o1, o2, o3, o4⟩ := prog_nums hfit z0 hM
        clear hfit
        generalize hpd : p + d.size = r at *
        clear h0 h1 h2 hM hpd
        have st := Bs.in2 W 35 [.string f.b0, .string f.b1, .int .i64 f.e0, .int .i64 f.e1, .int .i64 f.lim] 35 [.string ⟨#[]⟩, .string ⟨#[]⟩, .int .i64 0, .int .i64 0, .int .i64 0]
        go_enter Tryz.func73, Tryz.ntmps73
        have fc := And.intro (st.box 1 rfl).f5 (st.box 0 rfl).f5
        go_wp2_with fail; refine callB st (TR.out _) ?_; clear st fc; intro V1 st
        have fc := And.intro (st.box 1 rfl).f5 (st.box 0 rfl).f5
        go_wp2_with fail
        generalize V1 = V2 at *
        clear fc
        replace st := st.drew
        refine rh (fun w => True) trivial fun hHeld => ?_
        generalize V2.drew = V3 at *
        refine tq 0 ?_; refine tq 1 ?_; refine tq 2 ?_; refine tq 3 ?_; refine tq 4 ?_; refine tq 5 ?_; refine tq 6 ?_; refine tq 7 ?_; refine tq 8 ?_; refine tq 11 ?_; refine tq 12 ?_; refine tq 13 ?_; refine tq 15 ?_
        try simp only [Act.put, l1, l2, l3, l4, l5, l6]
        refine rd 9 fun K hK => ?_
        have fc := And.intro (st.box 1 rfl).f5 (st.box 0 rfl).f5
        go_simp
        refine callB st (TA.out _) ?_; clear st fc; intro V4 st
        have fc := And.intro (st.box 1 rfl).f5 (st.box 0 rfl).f5
        try go_wp2_with fail
        clear hHeld fc; refine hK.out _ _ trivial fun hHeld => ?_; clear hK K
        try simp only [Act.put, l1, l2, l3, l4, l5, l6]
        refine tq 10 ?_; refine tq 14 ?_; refine tq 16 ?_
        try simp only [Act.put, l1, l2, l3, l4, l5, l6]
        refine rd 17 fun K hK => ?_
        have fc := And.intro (st.box 1 rfl).f5 (st.box 0 rfl).f5
        go_simp
        try go_wp2_with fail
        clear fc
        replace st := (st.set 1 0 (.string (f.b0.extract 0 p ++ M ++ f.b0.extract r f.b0.size)) rfl).name; obtain ⟨V5, hV, st⟩ := st; rw [hV]; clear hV
        clear hHeld; refine hK.out _ _ trivial fun hHeld => ?_; clear hK K
        try simp only [Act.put, l1, l2, l3, l4, l5, l6]
        refine wpAnyH_done (by kernel_rfl) ?_ _; clear hHeld
        have fc := And.intro (st.box 1 rfl).f5 (st.box 0 rfl).f5
        go_wp2
        clear fc
        replace st := st.put5 0 (.string (f.b0.extract 0 p ++ M ++ f.b0.extract r f.b0.size)) (.string f.b1) (.int .i64 f.e0) (.int .i64 f.e1) (.int .i64 f.lim) rfl; obtain ⟨V6, hV, st⟩ := st; rw [hV]; clear hV
        have fc := And.intro (st.box 1 rfl).f5 (st.box 0 rfl).f5
        exact bodyPost_ret (v := .tuple #[.agg #[.string (f.b0.extract 0 p ++ M ++ f.b0.extract r f.b0.size), .string f.b1, .int .i64 f.e0, .int .i64 f.e1, .int .i64 f.lim], .int .i64 0]) (by simp [results, Tryz.results73, go_sem, fc]) rfl ⟨rfl, st.lo⟩
      · rw [show f.bank 1 = f.b1 from rfl] at h2 ⊢
        have TA := Lib.hid (fun (V : World) => refAnd (f.b1.extract p (p + d.size)) d V (by simp; omega) hd)
        have hM : (andB (f.b1.extract p (p + d.size)) d).size = d.size := by rw [andB_size]; simp; omega
        unfold splice
        generalize andB (f.b1.extract p (p + d.size)) d = M at *
        have hfit : p + d.size ≤ f.b1.size := by clear k1 k2 m1 m2 hq; omega
        obtain ⟨w1, w2, v0, v1, v2, v3, v4, o1, o2, o3, o4⟩ := prog_nums hfit z1 hM
        clear hfit
        generalize hpd : p + d.size = r at *
        clear h0 h1 h2 hM hpd
        have st := Bs.in2 W 35 [.string f.b0, .string f.b1, .int .i64 f.e0, .int .i64 f.e1, .int .i64 f.lim] 35 [.string ⟨#[]⟩, .string ⟨#[]⟩, .int .i64 0, .int .i64 0, .int .i64 0]
        go_enter Tryz.func73, Tryz.ntmps73
        have fc := And.intro (st.box 1 rfl).f5 (st.box 0 rfl).f5
        go_wp2_with fail; refine callB st (TR.out _) ?_; clear st fc; intro V1 st
        have fc := And.intro (st.box 1 rfl).f5 (st.box 0 rfl).f5
        go_wp2_with fail
        generalize V1 = V2 at *
        clear fc
        replace st := st.drew
        refine rh (fun w => True) trivial fun hHeld => ?_
        generalize V2.drew = V3 at *
        refine tq 0 ?_; refine tq 1 ?_; refine tq 2 ?_; refine tq 3 ?_; refine tq 4 ?_; refine tq 5 ?_; refine tq 6 ?_; refine tq 7 ?_; refine tq 8 ?_; refine tq 11 ?_; refine tq 12 ?_; refine tq 13 ?_; refine tq 15 ?_
        try simp only [Act.put, l1, l2, l3, l4, l5, l6]
        refine rd 9 fun K hK => ?_
        have fc := And.intro (st.box 1 rfl).f5 (st.box 0 rfl).f5
        go_simp
        refine callB st (TA.out _) ?_; clear st fc; intro V4 st
        have fc := And.intro (st.box 1 rfl).f5 (st.box 0 rfl).f5
        try go_wp2_with fail
        clear hHeld fc; refine hK.out _ _ trivial fun hHeld => ?_; clear hK K
        try simp only [Act.put, l1, l2, l3, l4, l5, l6]
        refine tq 10 ?_; refine tq 14 ?_; refine tq 16 ?_
        try simp only [Act.put, l1, l2, l3, l4, l5, l6]
        refine rd 17 fun K hK => ?_
        have fc := And.intro (st.box 1 rfl).f5 (st.box 0 rfl).f5
        go_simp
        try go_wp2_with fail
        clear fc
        replace st := (st.set 1 1 (.string (f.b1.extract 0 p ++ M ++ f.b1.extract r f.b1.size)) rfl).name; obtain ⟨V5, hV, st⟩ := st; rw [hV]; clear hV
        clear hHeld; refine hK.out _ _ trivial fun hHeld => ?_; clear hK K
        try simp only [Act.put, l1, l2, l3, l4, l5, l6]
        refine wpAnyH_done (by kernel_rfl) ?_ _; clear hHeld
        have fc := And.intro (st.box 1 rfl).f5 (st.box 0 rfl).f5
        go_wp2
        clear fc
        replace st := st.put5 0 (.string f.b0) (.string (f.b1.extract 0 p ++ M ++ f.b1.extract r f.b1.size)) (.int .i64 f.e0) (.int .i64 f.e1) (.int .i64 f.lim) rfl; obtain ⟨V6, hV, st⟩ := st; rw [hV]; clear hV
        have fc := And.intro (st.box 1 rfl).f5 (st.box 0 rfl).f5
        exact bodyPost_ret (v := .tuple #[.agg #[.string f.b0, .string (f.b1.extract 0 p ++ M ++ f.b1.extract r f.b1.size), .int .i64 f.e0, .int .i64 f.e1, .int .i64 f.lim], .int .i64 0]) (by simp [results, Tryz.results73, go_sem, fc]) rfl ⟨rfl, st.lo⟩
  · have hpe : progErr f bank q d = readErr f bank q d.size := progErr_read he
    have hpf : progF f bank q d = f := progF_none (by rw [hpe]; exact he)
    rw [hpe, hpf]
    have TR := Lib.hid (fun (V : World) => ref03Reads f bank q d.size V hf hq (by unfold maxLen at hd; omega))
    have m1 : (readErr f bank q d.size != 0) = true := bne_iff_ne.2 he
    clear hpe hpf he
    generalize readErr f bank q d.size = E at *
    have st := Bs.in2 W 35 [.string f.b0, .string f.b1, .int .i64 f.e0, .int .i64 f.e1, .int .i64 f.lim] 35 [.string ⟨#[]⟩, .string ⟨#[]⟩, .int .i64 0, .int .i64 0, .int .i64 0]
    go_enter Tryz.func73, Tryz.ntmps73
    have fc := And.intro (st.box 1 rfl).f5 (st.box 0 rfl).f5
    go_wp2_with fail; refine callB st (TR.out _) ?_; clear st fc; intro V1 st
    have fc := And.intro (st.box 1 rfl).f5 (st.box 0 rfl).f5
    go_wp2
    clear fc
    replace st := st.put5 0 (.string f.b0) (.string f.b1) (.int .i64 f.e0) (.int .i64 f.e1) (.int .i64 f.lim) rfl; obtain ⟨V2, hV, st⟩ := st; rw [hV]; clear hV
    have fc := And.intro (st.box 1 rfl).f5 (st.box 0 rfl).f5
    exact bodyPost_ret (v := .tuple #[.agg #[.string f.b0, .string f.b1, .int .i64 f.e0, .int .i64 f.e1, .int .i64 f.lim], .int .i64 E]) (by simp [results, Tryz.results73, go_sem, fc]) rfl ⟨rfl, st.lo⟩

set_option maxRecDepth 100000 in
set_option maxHeartbeats 4000000 in
theorem refBlanks3 (n : Nat) (W : World) (hn : n ≤ 140737488351232) : Calls Tryz.prog 102 #[.int .i64 (n : Int)] W fun e W' => e = .returned (.string (blankT n)) ∧ W' = W := by
  go_enter Tryz.func102, Tryz.ntmps102
  go_wp2
  go_loop [3, 4] (fun v i => ∃ k : Nat, k ≤ n ∧ i = .int .i64 k ∧ v = .string (blankT k))
    (fun _ i => n - (intOf i).toNat)
  case atStart => exact ⟨0, Nat.zero_le _, rfl, rfl⟩
  case round =>
    obtain ⟨k, hk, rfl, rfl⟩ := hrel
    have hz : (blankT k).size = k := by rw [blankT, bs_size, List.length_replicate]
    have hz2 : (blankT k).size ≤ 140737488351232 := by omega
    clear hz
    by_cases hlt : (k : Int) < (n : Int)
    · have HP := Lib.hid (show blankT k ++ ⟨#[255]⟩ = blankT (k + 1) from by apply bl_inj; rw [bl_append]; simp only [blankT, bl_bs]; rw [List.replicate_succ']; rfl)
      go_wp2
      go_round
      case rel => exact ⟨k + 1, by omega, by go_num, by rw [← HP.out]⟩
      case measure => simp [intOf]; omega
    · have hkn : n = k := by omega
      subst hkn
      go_wp2
      go_ret
      exact ⟨rfl, rfl⟩

theorem eraseErr_zero3 {f : Fl} {bank : Int} (hb : bank = 0 ∨ bank = 1) (h : f.erases bank < f.lim) : eraseErr f bank = 0 := by
  unfold eraseErr; rw [if_neg (by omega), if_neg (by omega)]

set_option maxRecDepth 100000 in
set_option maxHeartbeats 4000000 in
theorem ref03Erase (f : Fl) (bank : Int) (W : World) (hf : f.fit) :
    Gives Tryz.prog 74 #[.agg #[.string f.b0, .string f.b1, .int .i64 f.e0, .int .i64 f.e1, .int .i64 f.lim], .int .i64 bank] W (.tuple #[.agg #[.string (eraseF f bank).b0, .string (eraseF f bank).b1, .int .i64 (eraseF f bank).e0, .int .i64 (eraseF f bank).e1, .int .i64 (eraseF f bank).lim], .int .i64 (eraseErr f bank)]) := by
  have z0 := hf.z0
  have z1 := hf.z1
  have hf := hf.ok
  by_cases hb : bank ≠ 0 ∧ bank ≠ 1
  · have he : eraseErr f bank = 1 := if_pos hb
    have hf2 : eraseF f bank = f := if_neg (by rw [he]; decide)
    have m0 : (bank != 0) = true := bne_iff_ne.2 hb.1
    have m1 : (bank != 1) = true := bne_iff_ne.2 hb.2
    rw [he, hf2]
    clear he hf2 hb
    have st := Bs.in2 W 35 [.string f.b0, .string f.b1, .int .i64 f.e0, .int .i64 f.e1, .int .i64 f.lim] 35 [.string f.b0, .string f.b1, .int .i64 f.e0, .int .i64 f.e1, .int .i64 f.lim]
    go_enter Tryz.func74, Tryz.ntmps74
    have fc := And.intro (st.box 1 rfl).f5 (st.box 0 rfl).f5
    go_wp2
    exact bodyPost_ret (v := .tuple #[.agg #[.string f.b0, .string f.b1, .int .i64 f.e0, .int .i64 f.e1, .int .i64 f.lim], .int .i64 1]) (by simp [results, Tryz.results74, go_sem, fc]) rfl ⟨rfl, st.lo⟩
  · rcases (show bank = 0 ∨ bank = 1 from by omega) with rfl | rfl
    · by_cases hl : f.lim ≤ f.e0
      · have he : eraseErr f 0 = 4 := by unfold eraseErr; rw [if_neg (by omega), if_pos (show f.lim ≤ f.erases 0 from hl)]
        have hf2 : eraseF f 0 = f := if_neg (by rw [he]; decide)
        have m1 : f.e0 ≥ f.lim := hl
        rw [he, hf2]
        clear he hf2 hb hl
        have st := Bs.in2 W 35 [.string f.b0, .string f.b1, .int .i64 f.e0, .int .i64 f.e1, .int .i64 f.lim] 35 [.string ⟨#[]⟩, .string ⟨#[]⟩, .int .i64 0, .int .i64 0, .int .i64 0]
        go_enter Tryz.func74, Tryz.ntmps74
        have fc := And.intro (st.box 1 rfl).f5 (st.box 0 rfl).f5
        go_wp2_with fail
        clear fc
        replace st := st.name; obtain ⟨V1, hV, st⟩ := st; rw [hV]; clear hV
        replace st := st.drew
        refine rh (fun w => C5 w (W.heap.size) (.string f.b0) (.string f.b1) (.int .i64 f.e0) (.int .i64 f.e1) (.int .i64 f.lim)) ((st.box 1 rfl).c5) fun hHeld => ?_
        generalize V1.drew = V2 at *
        refine tq 0 ?_; refine tq 1 ?_; refine tq 2 ?_; refine tq 3 ?_; refine tq 4 ?_; refine tq 5 ?_; refine tq 6 ?_
        try simp only [Act.put, l1, l2, l3, l4, l5, l6]
        refine wpAnyH_done (by kernel_rfl) ?_ _; clear hHeld
        have fc := And.intro (st.box 1 rfl).f5 (st.box 0 rfl).f5
        go_wp2
        clear fc
        replace st := st.put5 0 (.string f.b0) (.string f.b1) (.int .i64 f.e0) (.int .i64 f.e1) (.int .i64 f.lim) rfl; obtain ⟨V3, hV, st⟩ := st; rw [hV]; clear hV
        have fc := And.intro (st.box 1 rfl).f5 (st.box 0 rfl).f5
        exact bodyPost_ret (v := .tuple #[.agg #[.string f.b0, .string f.b1, .int .i64 f.e0, .int .i64 f.e1, .int .i64 f.lim], .int .i64 4]) (by simp [results, Tryz.results74, go_sem, fc]) rfl ⟨rfl, st.lo⟩
      · have he : eraseErr f 0 = 0 := eraseErr_zero3 (by decide) (show f.erases 0 < f.lim from by show f.e0 < f.lim; omega)
        have hf2 : eraseF f 0 = ⟨blankT f.b0.size, f.b1, f.e0 + 1, f.e1, f.lim⟩ := by unfold eraseF; rw [if_pos he]; rfl
        have m1 : ¬ f.e0 ≥ f.lim := by omega
        have w1 : wrap64 (f.e0 + 1) = f.e0 + 1 := by have := hf.n0; have := hf.nl; unfold wrap64; omega
        have TB := Lib.hid (fun (V : World) => refBlanks3 f.b0.size V z0)
        rw [he, hf2]
        clear he hf2 hb hl
        generalize blankT f.b0.size = B at *
        have st := Bs.in2 W 35 [.string f.b0, .string f.b1, .int .i64 f.e0, .int .i64 f.e1, .int .i64 f.lim] 35 [.string ⟨#[]⟩, .string ⟨#[]⟩, .int .i64 0, .int .i64 0, .int .i64 0]
        go_enter Tryz.func74, Tryz.ntmps74
        have fc := And.intro (st.box 1 rfl).f5 (st.box 0 rfl).f5
        go_wp2_with fail
        clear fc
        replace st := st.name; obtain ⟨V1, hV, st⟩ := st; rw [hV]; clear hV
        replace st := st.drew
        refine rh (fun w => C5 w (W.heap.size) (.string f.b0) (.string f.b1) (.int .i64 f.e0) (.int .i64 f.e1) (.int .i64 f.lim)) ((st.box 1 rfl).c5) fun hHeld => ?_
        generalize V1.drew = V2 at *
        refine tq 0 ?_; refine tq 1 ?_; refine tq 2 ?_; refine tq 3 ?_; refine tq 4 ?_; refine tq 5 ?_; refine tq 6 ?_
        try simp only [Act.put, l1, l2, l3, l4, l5, l6]
        refine wpAnyH_done (by kernel_rfl) ?_ _; clear hHeld
        have fc := And.intro (st.box 1 rfl).f5 (st.box 0 rfl).f5
        go_wp2_with fail; refine callQ (TB.out _) ?_
        go_wp2
        clear fc
        replace st := ((st.set 1 0 (.string B) rfl).set 1 2 (.int .i64 (f.e0 + 1)) rfl).name; obtain ⟨V3, hV, st⟩ := st; rw [hV]; clear hV
        have fc := And.intro (st.box 1 rfl).f5 (st.box 0 rfl).f5
        clear fc
        replace st := st.put5 0 (.string B) (.string f.b1) (.int .i64 (f.e0 + 1)) (.int .i64 f.e1) (.int .i64 f.lim) rfl; obtain ⟨V4, hV, st⟩ := st; rw [hV]; clear hV
        have fc := And.intro (st.box 1 rfl).f5 (st.box 0 rfl).f5
        exact bodyPost_ret (v := .tuple #[.agg #[.string B, .string f.b1, .int .i64 (f.e0 + 1), .int .i64 f.e1, .int .i64 f.lim], .int .i64 0]) (by simp [results, Tryz.results74, go_sem, fc]) rfl ⟨rfl, st.lo⟩
    · by_cases hl : f.lim ≤ f.e1
      · have he : eraseErr f 1 = 4 := by unfold eraseErr; rw [if_neg (by omega), if_pos (show f.lim ≤ f.erases 1 from hl)]
        have hf2 : eraseF f 1 = f := if_neg (by rw [he]; decide)
        have m1 : f.e1 ≥ f.lim := hl
        rw [he, hf2]
        clear he hf2 hb hl
        have st := Bs.in2 W 35 [.string f.b0, .string f.b1, .int .i64 f.e0, .int .i64 f.e1, .int .i64 f.lim] 35 [.string ⟨#[]⟩, .string ⟨#[]⟩, .int .i64 0, .int .i64 0, .int .i64 0]
        go_enter Tryz.func74, Tryz.ntmps74
        have fc := And.intro (st.box 1 rfl).f5 (st.box 0 rfl).f5
        go_wp2_with fail
        clear fc
        replace st := st.name; obtain ⟨V1, hV, st⟩ := st; rw [hV]; clear hV
        replace st := st.drew
        refine rh (fun w => C5 w (W.heap.size) (.string f.b0) (.string f.b1) (.int .i64 f.e0) (.int .i64 f.e1) (.int .i64 f.lim)) ((st.box 1 rfl).c5) fun hHeld => ?_
        generalize V1.drew = V2 at *
        refine tq 0 ?_; refine tq 1 ?_; refine tq 2 ?_; refine tq 3 ?_; refine tq 4 ?_; refine tq 5 ?_; refine tq 6 ?_
        try simp only [Act.put, l1, l2, l3, l4, l5, l6]
        refine wpAnyH_done (by kernel_rfl) ?_ _; clear hHeld
        have fc := And.intro (st.box 1 rfl).f5 (st.box 0 rfl).f5
        go_wp2
        clear fc
        replace st := st.put5 0 (.string f.b0) (.string f.b1) (.int .i64 f.e0) (.int .i64 f.e1) (.int .i64 f.lim) rfl; obtain ⟨V3, hV, st⟩ := st; rw [hV]; clear hV
        have fc := And.intro (st.box 1 rfl).f5 (st.box 0 rfl).f5
        exact bodyPost_ret (v := .tuple #[.agg #[.string f.b0, .string f.b1, .int .i64 f.e0, .int .i64 f.e1, .int .i64 f.lim], .int .i64 4]) (by simp [results, Tryz.results74, go_sem, fc]) rfl ⟨rfl, st.lo⟩
      · have he : eraseErr f 1 = 0 := eraseErr_zero3 (by decide) (show f.erases 1 < f.lim from by show f.e1 < f.lim; omega)
        have hf2 : eraseF f 1 = ⟨f.b0, blankT f.b1.size, f.e0, f.e1 + 1, f.lim⟩ := by unfold eraseF; rw [if_pos he]; rfl
        have m1 : ¬ f.e1 ≥ f.lim := by omega
        have w1 : wrap64 (f.e1 + 1) = f.e1 + 1 := by have := hf.n1; have := hf.nl; unfold wrap64; omega
        have TB := Lib.hid (fun (V : World) => refBlanks3 f.b1.size V z1)
        rw [he, hf2]
        clear he hf2 hb hl
        generalize blankT f.b1.size = B at *
        have st := Bs.in2 W 35 [.string f.b0, .string f.b1, .int .i64 f.e0, .int .i64 f.e1, .int .i64 f.lim] 35 [.string ⟨#[]⟩, .string ⟨#[]⟩, .int .i64 0, .int .i64 0, .int .i64 0]
        go_enter Tryz.func74, Tryz.ntmps74
        have fc := And.intro (st.box 1 rfl).f5 (st.box 0 rfl).f5
        go_wp2_with fail
        clear fc
        replace st := st.name; obtain ⟨V1, hV, st⟩ := st; rw [hV]; clear hV
        replace st := st.drew
        refine rh (fun w => C5 w (W.heap.size) (.string f.b0) (.string f.b1) (.int .i64 f.e0) (.int .i64 f.e1) (.int .i64 f.lim)) ((st.box 1 rfl).c5) fun hHeld => ?_
        generalize V1.drew = V2 at *
        refine tq 0 ?_; refine tq 1 ?_; refine tq 2 ?_; refine tq 3 ?_; refine tq 4 ?_; refine tq 5 ?_; refine tq 6 ?_
        try simp only [Act.put, l1, l2, l3, l4, l5, l6]
        refine wpAnyH_done (by kernel_rfl) ?_ _; clear hHeld
        have fc := And.intro (st.box 1 rfl).f5 (st.box 0 rfl).f5
        go_wp2_with fail; refine callQ (TB.out _) ?_
        go_wp2
        clear fc
        replace st := ((st.set 1 1 (.string B) rfl).set 1 3 (.int .i64 (f.e1 + 1)) rfl).name; obtain ⟨V3, hV, st⟩ := st; rw [hV]; clear hV
        have fc := And.intro (st.box 1 rfl).f5 (st.box 0 rfl).f5
        clear fc
        replace st := st.put5 0 (.string f.b0) (.string B) (.int .i64 f.e0) (.int .i64 (f.e1 + 1)) (.int .i64 f.lim) rfl; obtain ⟨V4, hV, st⟩ := st; rw [hV]; clear hV
        have fc := And.intro (st.box 1 rfl).f5 (st.box 0 rfl).f5
        exact bodyPost_ret (v := .tuple #[.agg #[.string f.b0, .string B, .int .i64 f.e0, .int .i64 (f.e1 + 1), .int .i64 f.lim], .int .i64 0]) (by simp [results, Tryz.results74, go_sem, fc]) rfl ⟨rfl, st.lo⟩

end Go.Proofs.YthmpjoiifglbjaaGreat

/- The document's own plans, by contracts: no statement is proved here. -/
import Derived.Test.YthmpjoiifglbjaaGreatRows
import Derived.Test.YthmpjoiifglbjaaGreatJourFit
import Derived.Test.YthmpjoiifglbjaaGreatPowerDo
import Derived.Test.YthmpjoiifglbjaaGreatRecRef
import Derived.Test.YthmpjoiifglbjaaGreatLayoutOwn
import Derived.Test.YthmpjoiifglbjaaGreatBankRef
import Derived.Test.YthmpjoiifglbjaaGreatScanRef
import Derived.Test.YthmpjoiifglbjaaGreatPickRef
import Derived.Test.YthmpjoiifglbjaaGreatBs
import Derived.Test.YthmpjoiifglbjaaGreatInts
import Derived.Test.YthmpjoiifglbjaaGreatBytes
import Derived.WalkKit
import Derived.ProofKit
import Derived.Lib.Hide
import Derived.Deep.RegionHeld3
import Derived.WalkLawsBesides
import Derived.WalkSpells
import Derived.IntWalk
namespace Go.Proofs.YthmpjoiifglbjaaGreat
open Go.RowKit
set_option linter.unusedVariables false
set_option linter.unusedSimpArgs false

/-- A block holds these ops, one behind the other. -/
theorem ops_cell {l : List PwOp} {k j : Nat} {o : PwOp} (h : l[k]? = some o) (hj : j < 4) : (l.flatMap opV)[k * 4 + j]? = (opV o)[j]? := by
  induction l generalizing k with
  | nil => cases h
  | cons a l ih =>
    rw [List.flatMap_cons]
    cases k with
    | zero => simp only [List.getElem?_cons_zero, Option.some.injEq] at h; subst h; rw [Nat.zero_mul, Nat.zero_add, List.getElem?_append_left (by simp [opV]; exact hj)]
    | succ k => rw [List.getElem?_append_right (by simp [opV]; omega), show (k + 1) * 4 + j - (opV a).length = k * 4 + j from by simp [opV]; omega]; exact ih h
theorem ops_of_box {t : TypeId} {W : World} {g : Nat} {l : List PwOp} (b : Box t W g (l.flatMap opV)) (n : Nat) : OpsAt W (some ⟨g, n * 4, none⟩) (l.drop n) := fun _ => by
  refine ⟨g, n * 4, rfl, b.lt, fun k o h => ?_⟩
  rw [List.getElem?_drop] at h
  have hc : ∀ j, j < 4 → ∀ v, (opV o)[j]? = some v → W.cell? ⟨g, n * 4 + k * 4 + j, none⟩ = some v := fun j hj v hv => by
    rw [show n * 4 + k * 4 + j = (n + k) * 4 + j from by omega]; exact b.cell _ ((ops_cell h hj).trans hv)
  exact ⟨hc 0 (by decide) _ rfl, hc 1 (by decide) _ rfl, hc 2 (by decide) _ rfl, hc 3 (by decide) _ rfl⟩

set_option maxRecDepth 100000 in
set_option maxHeartbeats 8000000 in
theorem ref11Append (bank slot : Int) (seq d : Nat) (W : World) (hs : seq < 18446744073709551616) (hd : d < 18446744073709551616) :
    Calls Tryz.prog 43 #[.int .i64 bank, .int .i64 slot, .int .u64 (seq : Int), .int .u64 (d : Int)] W fun e W' => ∃ (A : Option Addr) (c : Nat), e = .returned (.slice A (appL bank slot seq d).length c) ∧ OpsAt W' A (appL bank slot seq d) ∧ ((appL bank slot seq d).length ≤ c ∧ c ≤ maxLen) ∧ Below W.heap.size W W' := by
  have T1 := Lib.hid (fun (V : World) => ref05At slot V)
  have T2 := Lib.hid (fun (V : World) => ref07Body ⟨2, seq, d⟩ V (rec_ok 2 (by decide) hs hd))
  have T3 := Lib.hid (fun (V : World) => ref05Mark slot V)
  have T4 := Lib.hid (fun (V : World) => ref07Mark V)
  have HL : appL bank slot seq d = [⟨1, bank, atF slot, bs (bodyL ⟨2, seq, d⟩)⟩, ⟨1, bank, markF slot, bs markL⟩] := rfl
  rw [HL]
  clear HL
  generalize bs (bodyL ⟨2, seq, d⟩) = D at *
  generalize bs markL = M at *
  generalize atF slot = a at *
  generalize markF slot = m at *
  dsimp only at T2
  have st := Bs.nil W
  go_enter Tryz.func43, Tryz.ntmps43
  go_wp2_with fail; refine callQ (T1.out _) ?_
  go_wp2_with fail; refine callB st (T2.out _) ?_; clear st; intro V1 st
  go_wp2_with fail; refine callQ (T3.out _) ?_
  go_wp2_with fail; refine callB st (T4.out _) ?_; clear st; intro V2 st
  replace st := st.alloc 105 [.int .i64 1, .int .i64 bank, .int .i64 a, .string D, .int .i64 1, .int .i64 bank, .int .i64 m, .string M]
  have fc := (st.box 0 rfl).f8
  clear fc
  go_wp2
  go_ret
  exact ⟨_, 2, rfl, ops_of_box (l := [⟨1, bank, a, D⟩, ⟨1, bank, m, M⟩]) (st.box 0 rfl) 0, ⟨by decide, by decide⟩, st.lo⟩

set_option maxRecDepth 100000 in
set_option maxHeartbeats 8000000 in
theorem ref11Fresh (bank : Int) (kill : Bool) (g seq d : Nat) (W : World) (hg : g < 18446744073709551616) (hs : seq < 18446744073709551616) (hd : d < 18446744073709551616) :
    Calls Tryz.prog 67 #[.int .i64 bank, .bool kill, .int .u64 (g : Int), .int .u64 (seq : Int), .int .u64 (d : Int)] W fun e W' => ∃ (A : Option Addr) (c : Nat), e = .returned (.slice A (freshL bank kill g seq d).length c) ∧ OpsAt W' A (freshL bank kill g seq d) ∧ ((freshL bank kill g seq d).length ≤ c ∧ c ≤ maxLen) ∧ Below W.heap.size W W' := by
  have T2 := Lib.hid (fun (V : World) => ref07Body ⟨3, seq, d⟩ V (rec_ok 3 (by decide) hs hd))
  have T3 := Lib.hid (fun (V : World) => ref07Body ⟨1, g, 0⟩ V (rec_ok 1 (by decide) hg (by decide)))
  have T4 := Lib.hid (fun (V : World) => ref07Mark V)
  have HCV := Lib.hid (fun (V : World) (b : Nat) (x : Box 5 V b [.int .u8 0, .int .u8 0]) => (show (convert 108 9 (.slice (some ⟨b, 0, none⟩) 2 2)).run Tryz.prog V = .ok (.string (bs [0, 0])) V from by
    have hb : BRow V b [0, 0] := ⟨x.lt, fun j hj => by
      refine ⟨?_, x.frozen j⟩
      match j, hj with
      | 0, _ => exact x.cell 0 rfl
      | 1, _ => exact x.cell 1 rfl⟩
    exact hb.string Tryz.underlying108 Tryz.underlying5 Tryz.underlying9 2))
  have HL : freshL bank kill g seq d = if kill = true then ([⟨1, bank, 0, bs [0, 0]⟩, ⟨2, bank, 0, ⟨#[]⟩⟩, ⟨1, bank, 24, bs (bodyL ⟨3, seq, d⟩)⟩, ⟨1, bank, 46, bs markL⟩, ⟨1, bank, 0, bs (bodyL ⟨1, g, 0⟩)⟩, ⟨1, bank, 22, bs markL⟩] : List PwOp) else ([⟨1, bank, 0, bs [0, 0]⟩, ⟨2, bank, 0, ⟨#[]⟩⟩, ⟨1, bank, 24, bs (bodyL ⟨3, seq, d⟩)⟩, ⟨1, bank, 46, bs markL⟩, ⟨1, bank, 0, bs (bodyL ⟨1, g, 0⟩)⟩, ⟨1, bank, 22, bs markL⟩] : List PwOp).drop 1 := rfl
  rw [HL]
  clear HL
  generalize bs (bodyL ⟨3, seq, d⟩) = D at *
  generalize bs (bodyL ⟨1, g, 0⟩) = H at *
  generalize bs markL = M at *
  generalize bs [0, 0] = Kz at *
  dsimp only at T2 T3
  have st := Bs.nil W
  go_enter Tryz.func67, Tryz.ntmps67
  go_wp2_with fail
  replace st := st.drew
  refine rh (fun w => True) trivial fun hHeld => ?_
  generalize W.drew = V1 at *
  refine tq 0 ?_; refine tq 4 ?_; refine tq 5 ?_; refine tq 6 ?_; refine tq 7 ?_; refine tq 8 ?_; refine tq 9 ?_; refine tq 12 ?_; refine tq 15 ?_; refine tq 16 ?_; refine tq 17 ?_; refine tq 20 ?_
  try simp only [Act.put, l1, l2, l3, l4, l5, l6]
  refine wpAnyH_ready (rs := [1, 10]) (by kernel_rfl) (by simp) (AllReadyH.cons rfl (fun K hK => ?_) (AllReadyH.cons rfl (fun K hK => ?_) (AllReadyH.nil)))
  · go_simp
    replace st := st.alloc 5 [.int .u8 0, .int .u8 0]
    replace st := st.name; obtain ⟨V2, hV, st⟩ := st; rw [hV]; clear hV
    generalize V1.heap.size = g_xz at *
    try go_wp2_with fail
    clear hHeld; refine hK.out _ _ trivial fun hHeld => ?_; clear hK K
    try simp only [Act.put, l1, l2, l3, l4, l5, l6]
    refine wpAnyH_ready (rs := [2, 10]) (by kernel_rfl) (by simp) (AllReadyH.cons rfl (fun K hK => ?_) (AllReadyH.cons rfl (fun K hK => ?_) (AllReadyH.nil)))
    · have fc := (st.box 0 rfl).f2
      have hcv := HCV.out _ _ (st.box 0 rfl)
      go_simp
      clear hcv
      try go_wp2_with fail
      clear hHeld fc; refine hK.out _ _ trivial fun hHeld => ?_; clear hK K
      try simp only [Act.put, l1, l2, l3, l4, l5, l6]
      refine tq 3 ?_
      try simp only [Act.put, l1, l2, l3, l4, l5, l6]
      refine rd 10 fun K hK => ?_
      have fc := (st.box 0 rfl).f2
      go_simp
      refine callB st (T2.out _) ?_; clear st fc; intro V3 st
      have fc := (st.box 0 rfl).f2
      try go_wp2_with fail
      clear hHeld fc; refine hK.out _ _ trivial fun hHeld => ?_; clear hK K
      try simp only [Act.put, l1, l2, l3, l4, l5, l6]
      refine tq 11 ?_
      try simp only [Act.put, l1, l2, l3, l4, l5, l6]
      refine rd 13 fun K hK => ?_
      have fc := (st.box 0 rfl).f2
      go_simp
      refine callB st (T4.out _) ?_; clear st fc; intro V4 st
      have fc := (st.box 0 rfl).f2
      try go_wp2_with fail
      clear hHeld fc; refine hK.out _ _ trivial fun hHeld => ?_; clear hK K
      try simp only [Act.put, l1, l2, l3, l4, l5, l6]
      refine tq 14 ?_
      try simp only [Act.put, l1, l2, l3, l4, l5, l6]
      refine rd 18 fun K hK => ?_
      have fc := (st.box 0 rfl).f2
      go_simp
      refine callB st (T3.out _) ?_; clear st fc; intro V5 st
      have fc := (st.box 0 rfl).f2
      try go_wp2_with fail
      clear hHeld fc; refine hK.out _ _ trivial fun hHeld => ?_; clear hK K
      try simp only [Act.put, l1, l2, l3, l4, l5, l6]
      refine tq 19 ?_
      try simp only [Act.put, l1, l2, l3, l4, l5, l6]
      refine rd 21 fun K hK => ?_
      have fc := (st.box 0 rfl).f2
      go_simp
      refine callB st (T4.out _) ?_; clear st fc; intro V6 st
      have fc := (st.box 0 rfl).f2
      try go_wp2_with fail
      clear hHeld fc; refine hK.out _ _ trivial fun hHeld => ?_; clear hK K
      try simp only [Act.put, l1, l2, l3, l4, l5, l6]
      refine tq 22 ?_
      try simp only [Act.put, l1, l2, l3, l4, l5, l6]
      refine rd 23 fun K hK => ?_
      have fc := (st.box 0 rfl).f2
      go_simp
      clear fc
      replace st := st.alloc 105 [.int .i64 1, .int .i64 bank, .int .i64 0, .string Kz, .int .i64 2, .int .i64 bank, .int .i64 0, .string ⟨#[]⟩, .int .i64 1, .int .i64 bank, .int .i64 24, .string D, .int .i64 1, .int .i64 bank, .int .i64 46, .string M, .int .i64 1, .int .i64 bank, .int .i64 0, .string H, .int .i64 1, .int .i64 bank, .int .i64 22, .string M]
      replace st := st.name; obtain ⟨V7, hV, st⟩ := st; rw [hV]; clear hV
      generalize V6.heap.size = g_xl at *
      try go_wp2_with fail
      clear hHeld; refine hK.out _ _ trivial fun hHeld => ?_; clear hK K
      try simp only [Act.put, l1, l2, l3, l4, l5, l6]
      refine tq 24 ?_
      try simp only [Act.put, l1, l2, l3, l4, l5, l6]
      refine wpAnyH_done (by kernel_rfl) ?_ _; clear hHeld
      have fc := And.intro (st.box 1 rfl).f2 (st.box 0 rfl).f24
      clear fc
      cases kill
      · go_wp2; go_ret; exact ⟨_, 5, rfl, ops_of_box (l := [⟨1, bank, 0, Kz⟩, ⟨2, bank, 0, ⟨#[]⟩⟩, ⟨1, bank, 24, D⟩, ⟨1, bank, 46, M⟩, ⟨1, bank, 0, H⟩, ⟨1, bank, 22, M⟩]) (st.box 0 rfl) 1, ⟨by decide, by decide⟩, st.lo⟩
      · go_wp2; go_ret; exact ⟨_, 6, rfl, ops_of_box (l := [⟨1, bank, 0, Kz⟩, ⟨2, bank, 0, ⟨#[]⟩⟩, ⟨1, bank, 24, D⟩, ⟨1, bank, 46, M⟩, ⟨1, bank, 0, H⟩, ⟨1, bank, 22, M⟩]) (st.box 0 rfl) 0, ⟨by decide, by decide⟩, st.lo⟩
    · have fc := (st.box 0 rfl).f2
      go_simp
      refine callB st (T2.out _) ?_; clear st fc; intro V3 st
      have fc := (st.box 0 rfl).f2
      try go_wp2_with fail
      clear hHeld fc; refine hK.out _ _ trivial fun hHeld => ?_; clear hK K
      try simp only [Act.put, l1, l2, l3, l4, l5, l6]
      refine tq 11 ?_
      try simp only [Act.put, l1, l2, l3, l4, l5, l6]
      refine wpAnyH_ready (rs := [2, 13]) (by kernel_rfl) (by simp) (AllReadyH.cons rfl (fun K hK => ?_) (AllReadyH.cons rfl (fun K hK => ?_) (AllReadyH.nil)))
      · have fc := (st.box 0 rfl).f2
        have hcv := HCV.out _ _ (st.box 0 rfl)
        go_simp
        clear hcv
        try go_wp2_with fail
        clear hHeld fc; refine hK.out _ _ trivial fun hHeld => ?_; clear hK K
        try simp only [Act.put, l1, l2, l3, l4, l5, l6]
        refine tq 3 ?_
        try simp only [Act.put, l1, l2, l3, l4, l5, l6]
        refine rd 13 fun K hK => ?_
        have fc := (st.box 0 rfl).f2
        go_simp
        refine callB st (T4.out _) ?_; clear st fc; intro V4 st
        have fc := (st.box 0 rfl).f2
        try go_wp2_with fail
        clear hHeld fc; refine hK.out _ _ trivial fun hHeld => ?_; clear hK K
        try simp only [Act.put, l1, l2, l3, l4, l5, l6]
        refine tq 14 ?_
        try simp only [Act.put, l1, l2, l3, l4, l5, l6]
        refine rd 18 fun K hK => ?_
        have fc := (st.box 0 rfl).f2
        go_simp
        refine callB st (T3.out _) ?_; clear st fc; intro V5 st
        have fc := (st.box 0 rfl).f2
        try go_wp2_with fail
        clear hHeld fc; refine hK.out _ _ trivial fun hHeld => ?_; clear hK K
        try simp only [Act.put, l1, l2, l3, l4, l5, l6]
        refine tq 19 ?_
        try simp only [Act.put, l1, l2, l3, l4, l5, l6]
        refine rd 21 fun K hK => ?_
        have fc := (st.box 0 rfl).f2
        go_simp
        refine callB st (T4.out _) ?_; clear st fc; intro V6 st
        have fc := (st.box 0 rfl).f2
        try go_wp2_with fail
        clear hHeld fc; refine hK.out _ _ trivial fun hHeld => ?_; clear hK K
        try simp only [Act.put, l1, l2, l3, l4, l5, l6]
        refine tq 22 ?_
        try simp only [Act.put, l1, l2, l3, l4, l5, l6]
        refine rd 23 fun K hK => ?_
        have fc := (st.box 0 rfl).f2
        go_simp
        clear fc
        replace st := st.alloc 105 [.int .i64 1, .int .i64 bank, .int .i64 0, .string Kz, .int .i64 2, .int .i64 bank, .int .i64 0, .string ⟨#[]⟩, .int .i64 1, .int .i64 bank, .int .i64 24, .string D, .int .i64 1, .int .i64 bank, .int .i64 46, .string M, .int .i64 1, .int .i64 bank, .int .i64 0, .string H, .int .i64 1, .int .i64 bank, .int .i64 22, .string M]
        replace st := st.name; obtain ⟨V7, hV, st⟩ := st; rw [hV]; clear hV
        generalize V6.heap.size = g_xl at *
        try go_wp2_with fail
        clear hHeld; refine hK.out _ _ trivial fun hHeld => ?_; clear hK K
        try simp only [Act.put, l1, l2, l3, l4, l5, l6]
        refine tq 24 ?_
        try simp only [Act.put, l1, l2, l3, l4, l5, l6]
        refine wpAnyH_done (by kernel_rfl) ?_ _; clear hHeld
        have fc := And.intro (st.box 1 rfl).f2 (st.box 0 rfl).f24
        clear fc
        cases kill
        · go_wp2; go_ret; exact ⟨_, 5, rfl, ops_of_box (l := [⟨1, bank, 0, Kz⟩, ⟨2, bank, 0, ⟨#[]⟩⟩, ⟨1, bank, 24, D⟩, ⟨1, bank, 46, M⟩, ⟨1, bank, 0, H⟩, ⟨1, bank, 22, M⟩]) (st.box 0 rfl) 1, ⟨by decide, by decide⟩, st.lo⟩
        · go_wp2; go_ret; exact ⟨_, 6, rfl, ops_of_box (l := [⟨1, bank, 0, Kz⟩, ⟨2, bank, 0, ⟨#[]⟩⟩, ⟨1, bank, 24, D⟩, ⟨1, bank, 46, M⟩, ⟨1, bank, 0, H⟩, ⟨1, bank, 22, M⟩]) (st.box 0 rfl) 0, ⟨by decide, by decide⟩, st.lo⟩
      · have fc := (st.box 0 rfl).f2
        go_simp
        refine callB st (T4.out _) ?_; clear st fc; intro V4 st
        have fc := (st.box 0 rfl).f2
        try go_wp2_with fail
        clear hHeld fc; refine hK.out _ _ trivial fun hHeld => ?_; clear hK K
        try simp only [Act.put, l1, l2, l3, l4, l5, l6]
        refine tq 14 ?_
        try simp only [Act.put, l1, l2, l3, l4, l5, l6]
        refine wpAnyH_ready (rs := [2, 18]) (by kernel_rfl) (by simp) (AllReadyH.cons rfl (fun K hK => ?_) (AllReadyH.cons rfl (fun K hK => ?_) (AllReadyH.nil)))
        · have fc := (st.box 0 rfl).f2
          have hcv := HCV.out _ _ (st.box 0 rfl)
          go_simp
          clear hcv
          try go_wp2_with fail
          clear hHeld fc; refine hK.out _ _ trivial fun hHeld => ?_; clear hK K
          try simp only [Act.put, l1, l2, l3, l4, l5, l6]
          refine tq 3 ?_
          try simp only [Act.put, l1, l2, l3, l4, l5, l6]
          refine rd 18 fun K hK => ?_
          have fc := (st.box 0 rfl).f2
          go_simp
          refine callB st (T3.out _) ?_; clear st fc; intro V5 st
          have fc := (st.box 0 rfl).f2
          try go_wp2_with fail
          clear hHeld fc; refine hK.out _ _ trivial fun hHeld => ?_; clear hK K
          try simp only [Act.put, l1, l2, l3, l4, l5, l6]
          refine tq 19 ?_
          try simp only [Act.put, l1, l2, l3, l4, l5, l6]
          refine rd 21 fun K hK => ?_
          have fc := (st.box 0 rfl).f2
          go_simp
          refine callB st (T4.out _) ?_; clear st fc; intro V6 st
          have fc := (st.box 0 rfl).f2
          try go_wp2_with fail
          clear hHeld fc; refine hK.out _ _ trivial fun hHeld => ?_; clear hK K
          try simp only [Act.put, l1, l2, l3, l4, l5, l6]
          refine tq 22 ?_
          try simp only [Act.put, l1, l2, l3, l4, l5, l6]
          refine rd 23 fun K hK => ?_
          have fc := (st.box 0 rfl).f2
          go_simp
          clear fc
          replace st := st.alloc 105 [.int .i64 1, .int .i64 bank, .int .i64 0, .string Kz, .int .i64 2, .int .i64 bank, .int .i64 0, .string ⟨#[]⟩, .int .i64 1, .int .i64 bank, .int .i64 24, .string D, .int .i64 1, .int .i64 bank, .int .i64 46, .string M, .int .i64 1, .int .i64 bank, .int .i64 0, .string H, .int .i64 1, .int .i64 bank, .int .i64 22, .string M]
          replace st := st.name; obtain ⟨V7, hV, st⟩ := st; rw [hV]; clear hV
          generalize V6.heap.size = g_xl at *
          try go_wp2_with fail
          clear hHeld; refine hK.out _ _ trivial fun hHeld => ?_; clear hK K
          try simp only [Act.put, l1, l2, l3, l4, l5, l6]
          refine tq 24 ?_
          try simp only [Act.put, l1, l2, l3, l4, l5, l6]
          refine wpAnyH_done (by kernel_rfl) ?_ _; clear hHeld
          have fc := And.intro (st.box 1 rfl).f2 (st.box 0 rfl).f24
          clear fc
          cases kill
          · go_wp2; go_ret; exact ⟨_, 5, rfl, ops_of_box (l := [⟨1, bank, 0, Kz⟩, ⟨2, bank, 0, ⟨#[]⟩⟩, ⟨1, bank, 24, D⟩, ⟨1, bank, 46, M⟩, ⟨1, bank, 0, H⟩, ⟨1, bank, 22, M⟩]) (st.box 0 rfl) 1, ⟨by decide, by decide⟩, st.lo⟩
          · go_wp2; go_ret; exact ⟨_, 6, rfl, ops_of_box (l := [⟨1, bank, 0, Kz⟩, ⟨2, bank, 0, ⟨#[]⟩⟩, ⟨1, bank, 24, D⟩, ⟨1, bank, 46, M⟩, ⟨1, bank, 0, H⟩, ⟨1, bank, 22, M⟩]) (st.box 0 rfl) 0, ⟨by decide, by decide⟩, st.lo⟩
        · have fc := (st.box 0 rfl).f2
          go_simp
          refine callB st (T3.out _) ?_; clear st fc; intro V5 st
          have fc := (st.box 0 rfl).f2
          try go_wp2_with fail
          clear hHeld fc; refine hK.out _ _ trivial fun hHeld => ?_; clear hK K
          try simp only [Act.put, l1, l2, l3, l4, l5, l6]
          refine tq 19 ?_
          try simp only [Act.put, l1, l2, l3, l4, l5, l6]
          refine wpAnyH_ready (rs := [2, 21]) (by kernel_rfl) (by simp) (AllReadyH.cons rfl (fun K hK => ?_) (AllReadyH.cons rfl (fun K hK => ?_) (AllReadyH.nil)))
          · have fc := (st.box 0 rfl).f2
            have hcv := HCV.out _ _ (st.box 0 rfl)
            go_simp
            clear hcv
            try go_wp2_with fail
            clear hHeld fc; refine hK.out _ _ trivial fun hHeld => ?_; clear hK K
            try simp only [Act.put, l1, l2, l3, l4, l5, l6]
            refine tq 3 ?_
            try simp only [Act.put, l1, l2, l3, l4, l5, l6]
            refine rd 21 fun K hK => ?_
            have fc := (st.box 0 rfl).f2
            go_simp
            refine callB st (T4.out _) ?_; clear st fc; intro V6 st
            have fc := (st.box 0 rfl).f2
            try go_wp2_with fail
            clear hHeld fc; refine hK.out _ _ trivial fun hHeld => ?_; clear hK K
            try simp only [Act.put, l1, l2, l3, l4, l5, l6]
            refine tq 22 ?_
            try simp only [Act.put, l1, l2, l3, l4, l5, l6]
            refine rd 23 fun K hK => ?_
            have fc := (st.box 0 rfl).f2
            go_simp
            clear fc
            replace st := st.alloc 105 [.int .i64 1, .int .i64 bank, .int .i64 0, .string Kz, .int .i64 2, .int .i64 bank, .int .i64 0, .string ⟨#[]⟩, .int .i64 1, .int .i64 bank, .int .i64 24, .string D, .int .i64 1, .int .i64 bank, .int .i64 46, .string M, .int .i64 1, .int .i64 bank, .int .i64 0, .string H, .int .i64 1, .int .i64 bank, .int .i64 22, .string M]
            replace st := st.name; obtain ⟨V7, hV, st⟩ := st; rw [hV]; clear hV
            generalize V6.heap.size = g_xl at *
            try go_wp2_with fail
            clear hHeld; refine hK.out _ _ trivial fun hHeld => ?_; clear hK K
            try simp only [Act.put, l1, l2, l3, l4, l5, l6]
            refine tq 24 ?_
            try simp only [Act.put, l1, l2, l3, l4, l5, l6]
            refine wpAnyH_done (by kernel_rfl) ?_ _; clear hHeld
            have fc := And.intro (st.box 1 rfl).f2 (st.box 0 rfl).f24
            clear fc
            cases kill
            · go_wp2; go_ret; exact ⟨_, 5, rfl, ops_of_box (l := [⟨1, bank, 0, Kz⟩, ⟨2, bank, 0, ⟨#[]⟩⟩, ⟨1, bank, 24, D⟩, ⟨1, bank, 46, M⟩, ⟨1, bank, 0, H⟩, ⟨1, bank, 22, M⟩]) (st.box 0 rfl) 1, ⟨by decide, by decide⟩, st.lo⟩
            · go_wp2; go_ret; exact ⟨_, 6, rfl, ops_of_box (l := [⟨1, bank, 0, Kz⟩, ⟨2, bank, 0, ⟨#[]⟩⟩, ⟨1, bank, 24, D⟩, ⟨1, bank, 46, M⟩, ⟨1, bank, 0, H⟩, ⟨1, bank, 22, M⟩]) (st.box 0 rfl) 0, ⟨by decide, by decide⟩, st.lo⟩
          · have fc := (st.box 0 rfl).f2
            go_simp
            refine callB st (T4.out _) ?_; clear st fc; intro V6 st
            have fc := (st.box 0 rfl).f2
            try go_wp2_with fail
            clear hHeld fc; refine hK.out _ _ trivial fun hHeld => ?_; clear hK K
            try simp only [Act.put, l1, l2, l3, l4, l5, l6]
            refine tq 22 ?_
            try simp only [Act.put, l1, l2, l3, l4, l5, l6]
            refine rd 2 fun K hK => ?_
            have fc := (st.box 0 rfl).f2
            have hcv := HCV.out _ _ (st.box 0 rfl)
            go_simp
            clear hcv
            try go_wp2_with fail
            clear hHeld fc; refine hK.out _ _ trivial fun hHeld => ?_; clear hK K
            try simp only [Act.put, l1, l2, l3, l4, l5, l6]
            refine tq 3 ?_
            try simp only [Act.put, l1, l2, l3, l4, l5, l6]
            refine rd 23 fun K hK => ?_
            have fc := (st.box 0 rfl).f2
            go_simp
            clear fc
            replace st := st.alloc 105 [.int .i64 1, .int .i64 bank, .int .i64 0, .string Kz, .int .i64 2, .int .i64 bank, .int .i64 0, .string ⟨#[]⟩, .int .i64 1, .int .i64 bank, .int .i64 24, .string D, .int .i64 1, .int .i64 bank, .int .i64 46, .string M, .int .i64 1, .int .i64 bank, .int .i64 0, .string H, .int .i64 1, .int .i64 bank, .int .i64 22, .string M]
            replace st := st.name; obtain ⟨V7, hV, st⟩ := st; rw [hV]; clear hV
            generalize V6.heap.size = g_xl at *
            try go_wp2_with fail
            clear hHeld; refine hK.out _ _ trivial fun hHeld => ?_; clear hK K
            try simp only [Act.put, l1, l2, l3, l4, l5, l6]
            refine tq 24 ?_
            try simp only [Act.put, l1, l2, l3, l4, l5, l6]
            refine wpAnyH_done (by kernel_rfl) ?_ _; clear hHeld
            have fc := And.intro (st.box 1 rfl).f2 (st.box 0 rfl).f24
            clear fc
            cases kill
            · go_wp2; go_ret; exact ⟨_, 5, rfl, ops_of_box (l := [⟨1, bank, 0, Kz⟩, ⟨2, bank, 0, ⟨#[]⟩⟩, ⟨1, bank, 24, D⟩, ⟨1, bank, 46, M⟩, ⟨1, bank, 0, H⟩, ⟨1, bank, 22, M⟩]) (st.box 0 rfl) 1, ⟨by decide, by decide⟩, st.lo⟩
            · go_wp2; go_ret; exact ⟨_, 6, rfl, ops_of_box (l := [⟨1, bank, 0, Kz⟩, ⟨2, bank, 0, ⟨#[]⟩⟩, ⟨1, bank, 24, D⟩, ⟨1, bank, 46, M⟩, ⟨1, bank, 0, H⟩, ⟨1, bank, 22, M⟩]) (st.box 0 rfl) 0, ⟨by decide, by decide⟩, st.lo⟩
  · go_simp
    refine callB st (T2.out _) ?_; clear st; intro V2 st
    try go_wp2_with fail
    clear hHeld; refine hK.out _ _ trivial fun hHeld => ?_; clear hK K
    try simp only [Act.put, l1, l2, l3, l4, l5, l6]
    refine tq 11 ?_
    try simp only [Act.put, l1, l2, l3, l4, l5, l6]
    refine wpAnyH_ready (rs := [1, 13]) (by kernel_rfl) (by simp) (AllReadyH.cons rfl (fun K hK => ?_) (AllReadyH.cons rfl (fun K hK => ?_) (AllReadyH.nil)))
    · go_simp
      replace st := st.alloc 5 [.int .u8 0, .int .u8 0]
      replace st := st.name; obtain ⟨V3, hV, st⟩ := st; rw [hV]; clear hV
      generalize V2.heap.size = g_xz at *
      try go_wp2_with fail
      clear hHeld; refine hK.out _ _ trivial fun hHeld => ?_; clear hK K
      try simp only [Act.put, l1, l2, l3, l4, l5, l6]
      refine wpAnyH_ready (rs := [2, 13]) (by kernel_rfl) (by simp) (AllReadyH.cons rfl (fun K hK => ?_) (AllReadyH.cons rfl (fun K hK => ?_) (AllReadyH.nil)))
      · have fc := (st.box 0 rfl).f2
        have hcv := HCV.out _ _ (st.box 0 rfl)
        go_simp
        clear hcv
        try go_wp2_with fail
        clear hHeld fc; refine hK.out _ _ trivial fun hHeld => ?_; clear hK K
        try simp only [Act.put, l1, l2, l3, l4, l5, l6]
        refine tq 3 ?_
        try simp only [Act.put, l1, l2, l3, l4, l5, l6]
        refine rd 13 fun K hK => ?_
        have fc := (st.box 0 rfl).f2
        go_simp
        refine callB st (T4.out _) ?_; clear st fc; intro V4 st
        have fc := (st.box 0 rfl).f2
        try go_wp2_with fail
        clear hHeld fc; refine hK.out _ _ trivial fun hHeld => ?_; clear hK K
        try simp only [Act.put, l1, l2, l3, l4, l5, l6]
        refine tq 14 ?_
        try simp only [Act.put, l1, l2, l3, l4, l5, l6]
        refine rd 18 fun K hK => ?_
        have fc := (st.box 0 rfl).f2
        go_simp
        refine callB st (T3.out _) ?_; clear st fc; intro V5 st
        have fc := (st.box 0 rfl).f2
        try go_wp2_with fail
        clear hHeld fc; refine hK.out _ _ trivial fun hHeld => ?_; clear hK K
        try simp only [Act.put, l1, l2, l3, l4, l5, l6]
        refine tq 19 ?_
        try simp only [Act.put, l1, l2, l3, l4, l5, l6]
        refine rd 21 fun K hK => ?_
        have fc := (st.box 0 rfl).f2
        go_simp
        refine callB st (T4.out _) ?_; clear st fc; intro V6 st
        have fc := (st.box 0 rfl).f2
        try go_wp2_with fail
        clear hHeld fc; refine hK.out _ _ trivial fun hHeld => ?_; clear hK K
        try simp only [Act.put, l1, l2, l3, l4, l5, l6]
        refine tq 22 ?_
        try simp only [Act.put, l1, l2, l3, l4, l5, l6]
        refine rd 23 fun K hK => ?_
        have fc := (st.box 0 rfl).f2
        go_simp
        clear fc
        replace st := st.alloc 105 [.int .i64 1, .int .i64 bank, .int .i64 0, .string Kz, .int .i64 2, .int .i64 bank, .int .i64 0, .string ⟨#[]⟩, .int .i64 1, .int .i64 bank, .int .i64 24, .string D, .int .i64 1, .int .i64 bank, .int .i64 46, .string M, .int .i64 1, .int .i64 bank, .int .i64 0, .string H, .int .i64 1, .int .i64 bank, .int .i64 22, .string M]
        replace st := st.name; obtain ⟨V7, hV, st⟩ := st; rw [hV]; clear hV
        generalize V6.heap.size = g_xl at *
        try go_wp2_with fail
        clear hHeld; refine hK.out _ _ trivial fun hHeld => ?_; clear hK K
        try simp only [Act.put, l1, l2, l3, l4, l5, l6]
        refine tq 24 ?_
        try simp only [Act.put, l1, l2, l3, l4, l5, l6]
        refine wpAnyH_done (by kernel_rfl) ?_ _; clear hHeld
        have fc := And.intro (st.box 1 rfl).f2 (st.box 0 rfl).f24
        clear fc
        cases kill
        · go_wp2; go_ret; exact ⟨_, 5, rfl, ops_of_box (l := [⟨1, bank, 0, Kz⟩, ⟨2, bank, 0, ⟨#[]⟩⟩, ⟨1, bank, 24, D⟩, ⟨1, bank, 46, M⟩, ⟨1, bank, 0, H⟩, ⟨1, bank, 22, M⟩]) (st.box 0 rfl) 1, ⟨by decide, by decide⟩, st.lo⟩
        · go_wp2; go_ret; exact ⟨_, 6, rfl, ops_of_box (l := [⟨1, bank, 0, Kz⟩, ⟨2, bank, 0, ⟨#[]⟩⟩, ⟨1, bank, 24, D⟩, ⟨1, bank, 46, M⟩, ⟨1, bank, 0, H⟩, ⟨1, bank, 22, M⟩]) (st.box 0 rfl) 0, ⟨by decide, by decide⟩, st.lo⟩
      · have fc := (st.box 0 rfl).f2
        go_simp
        refine callB st (T4.out _) ?_; clear st fc; intro V4 st
        have fc := (st.box 0 rfl).f2
        try go_wp2_with fail
        clear hHeld fc; refine hK.out _ _ trivial fun hHeld => ?_; clear hK K
        try simp only [Act.put, l1, l2, l3, l4, l5, l6]
        refine tq 14 ?_
        try simp only [Act.put, l1, l2, l3, l4, l5, l6]
        refine wpAnyH_ready (rs := [2, 18]) (by kernel_rfl) (by simp) (AllReadyH.cons rfl (fun K hK => ?_) (AllReadyH.cons rfl (fun K hK => ?_) (AllReadyH.nil)))
        · have fc := (st.box 0 rfl).f2
          have hcv := HCV.out _ _ (st.box 0 rfl)
          go_simp
          clear hcv
          try go_wp2_with fail
          clear hHeld fc; refine hK.out _ _ trivial fun hHeld => ?_; clear hK K
          try simp only [Act.put, l1, l2, l3, l4, l5, l6]
          refine tq 3 ?_
          try simp only [Act.put, l1, l2, l3, l4, l5, l6]
          refine rd 18 fun K hK => ?_
          have fc := (st.box 0 rfl).f2
          go_simp
          refine callB st (T3.out _) ?_; clear st fc; intro V5 st
          have fc := (st.box 0 rfl).f2
          try go_wp2_with fail
          clear hHeld fc; refine hK.out _ _ trivial fun hHeld => ?_; clear hK K
          try simp only [Act.put, l1, l2, l3, l4, l5, l6]
          refine tq 19 ?_
          try simp only [Act.put, l1, l2, l3, l4, l5, l6]
          refine rd 21 fun K hK => ?_
          have fc := (st.box 0 rfl).f2
          go_simp
          refine callB st (T4.out _) ?_; clear st fc; intro V6 st
          have fc := (st.box 0 rfl).f2
          try go_wp2_with fail
          clear hHeld fc; refine hK.out _ _ trivial fun hHeld => ?_; clear hK K
          try simp only [Act.put, l1, l2, l3, l4, l5, l6]
          refine tq 22 ?_
          try simp only [Act.put, l1, l2, l3, l4, l5, l6]
          refine rd 23 fun K hK => ?_
          have fc := (st.box 0 rfl).f2
          go_simp
          clear fc
          replace st := st.alloc 105 [.int .i64 1, .int .i64 bank, .int .i64 0, .string Kz, .int .i64 2, .int .i64 bank, .int .i64 0, .string ⟨#[]⟩, .int .i64 1, .int .i64 bank, .int .i64 24, .string D, .int .i64 1, .int .i64 bank, .int .i64 46, .string M, .int .i64 1, .int .i64 bank, .int .i64 0, .string H, .int .i64 1, .int .i64 bank, .int .i64 22, .string M]
          replace st := st.name; obtain ⟨V7, hV, st⟩ := st; rw [hV]; clear hV
          generalize V6.heap.size = g_xl at *
          try go_wp2_with fail
          clear hHeld; refine hK.out _ _ trivial fun hHeld => ?_; clear hK K
          try simp only [Act.put, l1, l2, l3, l4, l5, l6]
          refine tq 24 ?_
          try simp only [Act.put, l1, l2, l3, l4, l5, l6]
          refine wpAnyH_done (by kernel_rfl) ?_ _; clear hHeld
          have fc := And.intro (st.box 1 rfl).f2 (st.box 0 rfl).f24
          clear fc
          cases kill
          · go_wp2; go_ret; exact ⟨_, 5, rfl, ops_of_box (l := [⟨1, bank, 0, Kz⟩, ⟨2, bank, 0, ⟨#[]⟩⟩, ⟨1, bank, 24, D⟩, ⟨1, bank, 46, M⟩, ⟨1, bank, 0, H⟩, ⟨1, bank, 22, M⟩]) (st.box 0 rfl) 1, ⟨by decide, by decide⟩, st.lo⟩
          · go_wp2; go_ret; exact ⟨_, 6, rfl, ops_of_box (l := [⟨1, bank, 0, Kz⟩, ⟨2, bank, 0, ⟨#[]⟩⟩, ⟨1, bank, 24, D⟩, ⟨1, bank, 46, M⟩, ⟨1, bank, 0, H⟩, ⟨1, bank, 22, M⟩]) (st.box 0 rfl) 0, ⟨by decide, by decide⟩, st.lo⟩
        · have fc := (st.box 0 rfl).f2
          go_simp
          refine callB st (T3.out _) ?_; clear st fc; intro V5 st
          have fc := (st.box 0 rfl).f2
          try go_wp2_with fail
          clear hHeld fc; refine hK.out _ _ trivial fun hHeld => ?_; clear hK K
          try simp only [Act.put, l1, l2, l3, l4, l5, l6]
          refine tq 19 ?_
          try simp only [Act.put, l1, l2, l3, l4, l5, l6]
          refine wpAnyH_ready (rs := [2, 21]) (by kernel_rfl) (by simp) (AllReadyH.cons rfl (fun K hK => ?_) (AllReadyH.cons rfl (fun K hK => ?_) (AllReadyH.nil)))
          · have fc := (st.box 0 rfl).f2
            have hcv := HCV.out _ _ (st.box 0 rfl)
            go_simp
            clear hcv
            try go_wp2_with fail
            clear hHeld fc; refine hK.out _ _ trivial fun hHeld => ?_; clear hK K
            try simp only [Act.put, l1, l2, l3, l4, l5, l6]
            refine tq 3 ?_
            try simp only [Act.put, l1, l2, l3, l4, l5, l6]
            refine rd 21 fun K hK => ?_
            have fc := (st.box 0 rfl).f2
            go_simp
            refine callB st (T4.out _) ?_; clear st fc; intro V6 st
            have fc := (st.box 0 rfl).f2
            try go_wp2_with fail
            clear hHeld fc; refine hK.out _ _ trivial fun hHeld => ?_; clear hK K
            try simp only [Act.put, l1, l2, l3, l4, l5, l6]
            refine tq 22 ?_
            try simp only [Act.put, l1, l2, l3, l4, l5, l6]
            refine rd 23 fun K hK => ?_
            have fc := (st.box 0 rfl).f2
            go_simp
            clear fc
            replace st := st.alloc 105 [.int .i64 1, .int .i64 bank, .int .i64 0, .string Kz, .int .i64 2, .int .i64 bank, .int .i64 0, .string ⟨#[]⟩, .int .i64 1, .int .i64 bank, .int .i64 24, .string D, .int .i64 1, .int .i64 bank, .int .i64 46, .string M, .int .i64 1, .int .i64 bank, .int .i64 0, .string H, .int .i64 1, .int .i64 bank, .int .i64 22, .string M]
            replace st := st.name; obtain ⟨V7, hV, st⟩ := st; rw [hV]; clear hV
            generalize V6.heap.size = g_xl at *
            try go_wp2_with fail
            clear hHeld; refine hK.out _ _ trivial fun hHeld => ?_; clear hK K
            try simp only [Act.put, l1, l2, l3, l4, l5, l6]
            refine tq 24 ?_
            try simp only [Act.put, l1, l2, l3, l4, l5, l6]
            refine wpAnyH_done (by kernel_rfl) ?_ _; clear hHeld
            have fc := And.intro (st.box 1 rfl).f2 (st.box 0 rfl).f24
            clear fc
            cases kill
            · go_wp2; go_ret; exact ⟨_, 5, rfl, ops_of_box (l := [⟨1, bank, 0, Kz⟩, ⟨2, bank, 0, ⟨#[]⟩⟩, ⟨1, bank, 24, D⟩, ⟨1, bank, 46, M⟩, ⟨1, bank, 0, H⟩, ⟨1, bank, 22, M⟩]) (st.box 0 rfl) 1, ⟨by decide, by decide⟩, st.lo⟩
            · go_wp2; go_ret; exact ⟨_, 6, rfl, ops_of_box (l := [⟨1, bank, 0, Kz⟩, ⟨2, bank, 0, ⟨#[]⟩⟩, ⟨1, bank, 24, D⟩, ⟨1, bank, 46, M⟩, ⟨1, bank, 0, H⟩, ⟨1, bank, 22, M⟩]) (st.box 0 rfl) 0, ⟨by decide, by decide⟩, st.lo⟩
          · have fc := (st.box 0 rfl).f2
            go_simp
            refine callB st (T4.out _) ?_; clear st fc; intro V6 st
            have fc := (st.box 0 rfl).f2
            try go_wp2_with fail
            clear hHeld fc; refine hK.out _ _ trivial fun hHeld => ?_; clear hK K
            try simp only [Act.put, l1, l2, l3, l4, l5, l6]
            refine tq 22 ?_
            try simp only [Act.put, l1, l2, l3, l4, l5, l6]
            refine rd 2 fun K hK => ?_
            have fc := (st.box 0 rfl).f2
            have hcv := HCV.out _ _ (st.box 0 rfl)
            go_simp
            clear hcv
            try go_wp2_with fail
            clear hHeld fc; refine hK.out _ _ trivial fun hHeld => ?_; clear hK K
            try simp only [Act.put, l1, l2, l3, l4, l5, l6]
            refine tq 3 ?_
            try simp only [Act.put, l1, l2, l3, l4, l5, l6]
            refine rd 23 fun K hK => ?_
            have fc := (st.box 0 rfl).f2
            go_simp
            clear fc
            replace st := st.alloc 105 [.int .i64 1, .int .i64 bank, .int .i64 0, .string Kz, .int .i64 2, .int .i64 bank, .int .i64 0, .string ⟨#[]⟩, .int .i64 1, .int .i64 bank, .int .i64 24, .string D, .int .i64 1, .int .i64 bank, .int .i64 46, .string M, .int .i64 1, .int .i64 bank, .int .i64 0, .string H, .int .i64 1, .int .i64 bank, .int .i64 22, .string M]
            replace st := st.name; obtain ⟨V7, hV, st⟩ := st; rw [hV]; clear hV
            generalize V6.heap.size = g_xl at *
            try go_wp2_with fail
            clear hHeld; refine hK.out _ _ trivial fun hHeld => ?_; clear hK K
            try simp only [Act.put, l1, l2, l3, l4, l5, l6]
            refine tq 24 ?_
            try simp only [Act.put, l1, l2, l3, l4, l5, l6]
            refine wpAnyH_done (by kernel_rfl) ?_ _; clear hHeld
            have fc := And.intro (st.box 1 rfl).f2 (st.box 0 rfl).f24
            clear fc
            cases kill
            · go_wp2; go_ret; exact ⟨_, 5, rfl, ops_of_box (l := [⟨1, bank, 0, Kz⟩, ⟨2, bank, 0, ⟨#[]⟩⟩, ⟨1, bank, 24, D⟩, ⟨1, bank, 46, M⟩, ⟨1, bank, 0, H⟩, ⟨1, bank, 22, M⟩]) (st.box 0 rfl) 1, ⟨by decide, by decide⟩, st.lo⟩
            · go_wp2; go_ret; exact ⟨_, 6, rfl, ops_of_box (l := [⟨1, bank, 0, Kz⟩, ⟨2, bank, 0, ⟨#[]⟩⟩, ⟨1, bank, 24, D⟩, ⟨1, bank, 46, M⟩, ⟨1, bank, 0, H⟩, ⟨1, bank, 22, M⟩]) (st.box 0 rfl) 0, ⟨by decide, by decide⟩, st.lo⟩
    · go_simp
      refine callB st (T4.out _) ?_; clear st; intro V3 st
      try go_wp2_with fail
      clear hHeld; refine hK.out _ _ trivial fun hHeld => ?_; clear hK K
      try simp only [Act.put, l1, l2, l3, l4, l5, l6]
      refine tq 14 ?_
      try simp only [Act.put, l1, l2, l3, l4, l5, l6]
      refine wpAnyH_ready (rs := [1, 18]) (by kernel_rfl) (by simp) (AllReadyH.cons rfl (fun K hK => ?_) (AllReadyH.cons rfl (fun K hK => ?_) (AllReadyH.nil)))
      · go_simp
        replace st := st.alloc 5 [.int .u8 0, .int .u8 0]
        replace st := st.name; obtain ⟨V4, hV, st⟩ := st; rw [hV]; clear hV
        generalize V3.heap.size = g_xz at *
        try go_wp2_with fail
        clear hHeld; refine hK.out _ _ trivial fun hHeld => ?_; clear hK K
        try simp only [Act.put, l1, l2, l3, l4, l5, l6]
        refine wpAnyH_ready (rs := [2, 18]) (by kernel_rfl) (by simp) (AllReadyH.cons rfl (fun K hK => ?_) (AllReadyH.cons rfl (fun K hK => ?_) (AllReadyH.nil)))
        · have fc := (st.box 0 rfl).f2
          have hcv := HCV.out _ _ (st.box 0 rfl)
          go_simp
          clear hcv
          try go_wp2_with fail
          clear hHeld fc; refine hK.out _ _ trivial fun hHeld => ?_; clear hK K
          try simp only [Act.put, l1, l2, l3, l4, l5, l6]
          refine tq 3 ?_
          try simp only [Act.put, l1, l2, l3, l4, l5, l6]
          refine rd 18 fun K hK => ?_
          have fc := (st.box 0 rfl).f2
          go_simp
          refine callB st (T3.out _) ?_; clear st fc; intro V5 st
          have fc := (st.box 0 rfl).f2
          try go_wp2_with fail
          clear hHeld fc; refine hK.out _ _ trivial fun hHeld => ?_; clear hK K
          try simp only [Act.put, l1, l2, l3, l4, l5, l6]
          refine tq 19 ?_
          try simp only [Act.put, l1, l2, l3, l4, l5, l6]
          refine rd 21 fun K hK => ?_
          have fc := (st.box 0 rfl).f2
          go_simp
          refine callB st (T4.out _) ?_; clear st fc; intro V6 st
          have fc := (st.box 0 rfl).f2
          try go_wp2_with fail
          clear hHeld fc; refine hK.out _ _ trivial fun hHeld => ?_; clear hK K
          try simp only [Act.put, l1, l2, l3, l4, l5, l6]
          refine tq 22 ?_
          try simp only [Act.put, l1, l2, l3, l4, l5, l6]
          refine rd 23 fun K hK => ?_
          have fc := (st.box 0 rfl).f2
          go_simp
          clear fc
          replace st := st.alloc 105 [.int .i64 1, .int .i64 bank, .int .i64 0, .string Kz, .int .i64 2, .int .i64 bank, .int .i64 0, .string ⟨#[]⟩, .int .i64 1, .int .i64 bank, .int .i64 24, .string D, .int .i64 1, .int .i64 bank, .int .i64 46, .string M, .int .i64 1, .int .i64 bank, .int .i64 0, .string H, .int .i64 1, .int .i64 bank, .int .i64 22, .string M]
          replace st := st.name; obtain ⟨V7, hV, st⟩ := st; rw [hV]; clear hV
          generalize V6.heap.size = g_xl at *
          try go_wp2_with fail
          clear hHeld; refine hK.out _ _ trivial fun hHeld => ?_; clear hK K
          try simp only [Act.put, l1, l2, l3, l4, l5, l6]
          refine tq 24 ?_
          try simp only [Act.put, l1, l2, l3, l4, l5, l6]
          refine wpAnyH_done (by kernel_rfl) ?_ _; clear hHeld
          have fc := And.intro (st.box 1 rfl).f2 (st.box 0 rfl).f24
          clear fc
          cases kill
          · go_wp2; go_ret; exact ⟨_, 5, rfl, ops_of_box (l := [⟨1, bank, 0, Kz⟩, ⟨2, bank, 0, ⟨#[]⟩⟩, ⟨1, bank, 24, D⟩, ⟨1, bank, 46, M⟩, ⟨1, bank, 0, H⟩, ⟨1, bank, 22, M⟩]) (st.box 0 rfl) 1, ⟨by decide, by decide⟩, st.lo⟩
          · go_wp2; go_ret; exact ⟨_, 6, rfl, ops_of_box (l := [⟨1, bank, 0, Kz⟩, ⟨2, bank, 0, ⟨#[]⟩⟩, ⟨1, bank, 24, D⟩, ⟨1, bank, 46, M⟩, ⟨1, bank, 0, H⟩, ⟨1, bank, 22, M⟩]) (st.box 0 rfl) 0, ⟨by decide, by decide⟩, st.lo⟩
        · have fc := (st.box 0 rfl).f2
          go_simp
          refine callB st (T3.out _) ?_; clear st fc; intro V5 st
          have fc := (st.box 0 rfl).f2
          try go_wp2_with fail
          clear hHeld fc; refine hK.out _ _ trivial fun hHeld => ?_; clear hK K
          try simp only [Act.put, l1, l2, l3, l4, l5, l6]
          refine tq 19 ?_
          try simp only [Act.put, l1, l2, l3, l4, l5, l6]
          refine wpAnyH_ready (rs := [2, 21]) (by kernel_rfl) (by simp) (AllReadyH.cons rfl (fun K hK => ?_) (AllReadyH.cons rfl (fun K hK => ?_) (AllReadyH.nil)))
          · have fc := (st.box 0 rfl).f2
            have hcv := HCV.out _ _ (st.box 0 rfl)
            go_simp
            clear hcv
            try go_wp2_with fail
            clear hHeld fc; refine hK.out _ _ trivial fun hHeld => ?_; clear hK K
            try simp only [Act.put, l1, l2, l3, l4, l5, l6]
            refine tq 3 ?_
            try simp only [Act.put, l1, l2, l3, l4, l5, l6]
            refine rd 21 fun K hK => ?_
            have fc := (st.box 0 rfl).f2
            go_simp
            refine callB st (T4.out _) ?_; clear st fc; intro V6 st
            have fc := (st.box 0 rfl).f2
            try go_wp2_with fail
            clear hHeld fc; refine hK.out _ _ trivial fun hHeld => ?_; clear hK K
            try simp only [Act.put, l1, l2, l3, l4, l5, l6]
            refine tq 22 ?_
            try simp only [Act.put, l1, l2, l3, l4, l5, l6]
            refine rd 23 fun K hK => ?_
            have fc := (st.box 0 rfl).f2
            go_simp
            clear fc
            replace st := st.alloc 105 [.int .i64 1, .int .i64 bank, .int .i64 0, .string Kz, .int .i64 2, .int .i64 bank, .int .i64 0, .string ⟨#[]⟩, .int .i64 1, .int .i64 bank, .int .i64 24, .string D, .int .i64 1, .int .i64 bank, .int .i64 46, .string M, .int .i64 1, .int .i64 bank, .int .i64 0, .string H, .int .i64 1, .int .i64 bank, .int .i64 22, .string M]
            replace st := st.name; obtain ⟨V7, hV, st⟩ := st; rw [hV]; clear hV
            generalize V6.heap.size = g_xl at *
            try go_wp2_with fail
            clear hHeld; refine hK.out _ _ trivial fun hHeld => ?_; clear hK K
            try simp only [Act.put, l1, l2, l3, l4, l5, l6]
            refine tq 24 ?_
            try simp only [Act.put, l1, l2, l3, l4, l5, l6]
            refine wpAnyH_done (by kernel_rfl) ?_ _; clear hHeld
            have fc := And.intro (st.box 1 rfl).f2 (st.box 0 rfl).f24
            clear fc
            cases kill
            · go_wp2; go_ret; exact ⟨_, 5, rfl, ops_of_box (l := [⟨1, bank, 0, Kz⟩, ⟨2, bank, 0, ⟨#[]⟩⟩, ⟨1, bank, 24, D⟩, ⟨1, bank, 46, M⟩, ⟨1, bank, 0, H⟩, ⟨1, bank, 22, M⟩]) (st.box 0 rfl) 1, ⟨by decide, by decide⟩, st.lo⟩
            · go_wp2; go_ret; exact ⟨_, 6, rfl, ops_of_box (l := [⟨1, bank, 0, Kz⟩, ⟨2, bank, 0, ⟨#[]⟩⟩, ⟨1, bank, 24, D⟩, ⟨1, bank, 46, M⟩, ⟨1, bank, 0, H⟩, ⟨1, bank, 22, M⟩]) (st.box 0 rfl) 0, ⟨by decide, by decide⟩, st.lo⟩
          · have fc := (st.box 0 rfl).f2
            go_simp
            refine callB st (T4.out _) ?_; clear st fc; intro V6 st
            have fc := (st.box 0 rfl).f2
            try go_wp2_with fail
            clear hHeld fc; refine hK.out _ _ trivial fun hHeld => ?_; clear hK K
            try simp only [Act.put, l1, l2, l3, l4, l5, l6]
            refine tq 22 ?_
            try simp only [Act.put, l1, l2, l3, l4, l5, l6]
            refine rd 2 fun K hK => ?_
            have fc := (st.box 0 rfl).f2
            have hcv := HCV.out _ _ (st.box 0 rfl)
            go_simp
            clear hcv
            try go_wp2_with fail
            clear hHeld fc; refine hK.out _ _ trivial fun hHeld => ?_; clear hK K
            try simp only [Act.put, l1, l2, l3, l4, l5, l6]
            refine tq 3 ?_
            try simp only [Act.put, l1, l2, l3, l4, l5, l6]
            refine rd 23 fun K hK => ?_
            have fc := (st.box 0 rfl).f2
            go_simp
            clear fc
            replace st := st.alloc 105 [.int .i64 1, .int .i64 bank, .int .i64 0, .string Kz, .int .i64 2, .int .i64 bank, .int .i64 0, .string ⟨#[]⟩, .int .i64 1, .int .i64 bank, .int .i64 24, .string D, .int .i64 1, .int .i64 bank, .int .i64 46, .string M, .int .i64 1, .int .i64 bank, .int .i64 0, .string H, .int .i64 1, .int .i64 bank, .int .i64 22, .string M]
            replace st := st.name; obtain ⟨V7, hV, st⟩ := st; rw [hV]; clear hV
            generalize V6.heap.size = g_xl at *
            try go_wp2_with fail
            clear hHeld; refine hK.out _ _ trivial fun hHeld => ?_; clear hK K
            try simp only [Act.put, l1, l2, l3, l4, l5, l6]
            refine tq 24 ?_
            try simp only [Act.put, l1, l2, l3, l4, l5, l6]
            refine wpAnyH_done (by kernel_rfl) ?_ _; clear hHeld
            have fc := And.intro (st.box 1 rfl).f2 (st.box 0 rfl).f24
            clear fc
            cases kill
            · go_wp2; go_ret; exact ⟨_, 5, rfl, ops_of_box (l := [⟨1, bank, 0, Kz⟩, ⟨2, bank, 0, ⟨#[]⟩⟩, ⟨1, bank, 24, D⟩, ⟨1, bank, 46, M⟩, ⟨1, bank, 0, H⟩, ⟨1, bank, 22, M⟩]) (st.box 0 rfl) 1, ⟨by decide, by decide⟩, st.lo⟩
            · go_wp2; go_ret; exact ⟨_, 6, rfl, ops_of_box (l := [⟨1, bank, 0, Kz⟩, ⟨2, bank, 0, ⟨#[]⟩⟩, ⟨1, bank, 24, D⟩, ⟨1, bank, 46, M⟩, ⟨1, bank, 0, H⟩, ⟨1, bank, 22, M⟩]) (st.box 0 rfl) 0, ⟨by decide, by decide⟩, st.lo⟩
      · go_simp
        refine callB st (T3.out _) ?_; clear st; intro V4 st
        try go_wp2_with fail
        clear hHeld; refine hK.out _ _ trivial fun hHeld => ?_; clear hK K
        try simp only [Act.put, l1, l2, l3, l4, l5, l6]
        refine tq 19 ?_
        try simp only [Act.put, l1, l2, l3, l4, l5, l6]
        refine wpAnyH_ready (rs := [1, 21]) (by kernel_rfl) (by simp) (AllReadyH.cons rfl (fun K hK => ?_) (AllReadyH.cons rfl (fun K hK => ?_) (AllReadyH.nil)))
        · go_simp
          replace st := st.alloc 5 [.int .u8 0, .int .u8 0]
          replace st := st.name; obtain ⟨V5, hV, st⟩ := st; rw [hV]; clear hV
          generalize V4.heap.size = g_xz at *
          try go_wp2_with fail
          clear hHeld; refine hK.out _ _ trivial fun hHeld => ?_; clear hK K
          try simp only [Act.put, l1, l2, l3, l4, l5, l6]
          refine wpAnyH_ready (rs := [2, 21]) (by kernel_rfl) (by simp) (AllReadyH.cons rfl (fun K hK => ?_) (AllReadyH.cons rfl (fun K hK => ?_) (AllReadyH.nil)))
          · have fc := (st.box 0 rfl).f2
            have hcv := HCV.out _ _ (st.box 0 rfl)
            go_simp
            clear hcv
            try go_wp2_with fail
            clear hHeld fc; refine hK.out _ _ trivial fun hHeld => ?_; clear hK K
            try simp only [Act.put, l1, l2, l3, l4, l5, l6]
            refine tq 3 ?_
            try simp only [Act.put, l1, l2, l3, l4, l5, l6]
            refine rd 21 fun K hK => ?_
            have fc := (st.box 0 rfl).f2
            go_simp
            refine callB st (T4.out _) ?_; clear st fc; intro V6 st
            have fc := (st.box 0 rfl).f2
            try go_wp2_with fail
            clear hHeld fc; refine hK.out _ _ trivial fun hHeld => ?_; clear hK K
            try simp only [Act.put, l1, l2, l3, l4, l5, l6]
            refine tq 22 ?_
            try simp only [Act.put, l1, l2, l3, l4, l5, l6]
            refine rd 23 fun K hK => ?_
            have fc := (st.box 0 rfl).f2
            go_simp
            clear fc
            replace st := st.alloc 105 [.int .i64 1, .int .i64 bank, .int .i64 0, .string Kz, .int .i64 2, .int .i64 bank, .int .i64 0, .string ⟨#[]⟩, .int .i64 1, .int .i64 bank, .int .i64 24, .string D, .int .i64 1, .int .i64 bank, .int .i64 46, .string M, .int .i64 1, .int .i64 bank, .int .i64 0, .string H, .int .i64 1, .int .i64 bank, .int .i64 22, .string M]
            replace st := st.name; obtain ⟨V7, hV, st⟩ := st; rw [hV]; clear hV
            generalize V6.heap.size = g_xl at *
            try go_wp2_with fail
            clear hHeld; refine hK.out _ _ trivial fun hHeld => ?_; clear hK K
            try simp only [Act.put, l1, l2, l3, l4, l5, l6]
            refine tq 24 ?_
            try simp only [Act.put, l1, l2, l3, l4, l5, l6]
            refine wpAnyH_done (by kernel_rfl) ?_ _; clear hHeld
            have fc := And.intro (st.box 1 rfl).f2 (st.box 0 rfl).f24
            clear fc
            cases kill
            · go_wp2; go_ret; exact ⟨_, 5, rfl, ops_of_box (l := [⟨1, bank, 0, Kz⟩, ⟨2, bank, 0, ⟨#[]⟩⟩, ⟨1, bank, 24, D⟩, ⟨1, bank, 46, M⟩, ⟨1, bank, 0, H⟩, ⟨1, bank, 22, M⟩]) (st.box 0 rfl) 1, ⟨by decide, by decide⟩, st.lo⟩
            · go_wp2; go_ret; exact ⟨_, 6, rfl, ops_of_box (l := [⟨1, bank, 0, Kz⟩, ⟨2, bank, 0, ⟨#[]⟩⟩, ⟨1, bank, 24, D⟩, ⟨1, bank, 46, M⟩, ⟨1, bank, 0, H⟩, ⟨1, bank, 22, M⟩]) (st.box 0 rfl) 0, ⟨by decide, by decide⟩, st.lo⟩
          · have fc := (st.box 0 rfl).f2
            go_simp
            refine callB st (T4.out _) ?_; clear st fc; intro V6 st
            have fc := (st.box 0 rfl).f2
            try go_wp2_with fail
            clear hHeld fc; refine hK.out _ _ trivial fun hHeld => ?_; clear hK K
            try simp only [Act.put, l1, l2, l3, l4, l5, l6]
            refine tq 22 ?_
            try simp only [Act.put, l1, l2, l3, l4, l5, l6]
            refine rd 2 fun K hK => ?_
            have fc := (st.box 0 rfl).f2
            have hcv := HCV.out _ _ (st.box 0 rfl)
            go_simp
            clear hcv
            try go_wp2_with fail
            clear hHeld fc; refine hK.out _ _ trivial fun hHeld => ?_; clear hK K
            try simp only [Act.put, l1, l2, l3, l4, l5, l6]
            refine tq 3 ?_
            try simp only [Act.put, l1, l2, l3, l4, l5, l6]
            refine rd 23 fun K hK => ?_
            have fc := (st.box 0 rfl).f2
            go_simp
            clear fc
            replace st := st.alloc 105 [.int .i64 1, .int .i64 bank, .int .i64 0, .string Kz, .int .i64 2, .int .i64 bank, .int .i64 0, .string ⟨#[]⟩, .int .i64 1, .int .i64 bank, .int .i64 24, .string D, .int .i64 1, .int .i64 bank, .int .i64 46, .string M, .int .i64 1, .int .i64 bank, .int .i64 0, .string H, .int .i64 1, .int .i64 bank, .int .i64 22, .string M]
            replace st := st.name; obtain ⟨V7, hV, st⟩ := st; rw [hV]; clear hV
            generalize V6.heap.size = g_xl at *
            try go_wp2_with fail
            clear hHeld; refine hK.out _ _ trivial fun hHeld => ?_; clear hK K
            try simp only [Act.put, l1, l2, l3, l4, l5, l6]
            refine tq 24 ?_
            try simp only [Act.put, l1, l2, l3, l4, l5, l6]
            refine wpAnyH_done (by kernel_rfl) ?_ _; clear hHeld
            have fc := And.intro (st.box 1 rfl).f2 (st.box 0 rfl).f24
            clear fc
            cases kill
            · go_wp2; go_ret; exact ⟨_, 5, rfl, ops_of_box (l := [⟨1, bank, 0, Kz⟩, ⟨2, bank, 0, ⟨#[]⟩⟩, ⟨1, bank, 24, D⟩, ⟨1, bank, 46, M⟩, ⟨1, bank, 0, H⟩, ⟨1, bank, 22, M⟩]) (st.box 0 rfl) 1, ⟨by decide, by decide⟩, st.lo⟩
            · go_wp2; go_ret; exact ⟨_, 6, rfl, ops_of_box (l := [⟨1, bank, 0, Kz⟩, ⟨2, bank, 0, ⟨#[]⟩⟩, ⟨1, bank, 24, D⟩, ⟨1, bank, 46, M⟩, ⟨1, bank, 0, H⟩, ⟨1, bank, 22, M⟩]) (st.box 0 rfl) 0, ⟨by decide, by decide⟩, st.lo⟩
        · go_simp
          refine callB st (T4.out _) ?_; clear st; intro V5 st
          try go_wp2_with fail
          clear hHeld; refine hK.out _ _ trivial fun hHeld => ?_; clear hK K
          try simp only [Act.put, l1, l2, l3, l4, l5, l6]
          refine tq 22 ?_
          try simp only [Act.put, l1, l2, l3, l4, l5, l6]
          refine rd 1 fun K hK => ?_
          go_simp
          replace st := st.alloc 5 [.int .u8 0, .int .u8 0]
          replace st := st.name; obtain ⟨V6, hV, st⟩ := st; rw [hV]; clear hV
          generalize V5.heap.size = g_xz at *
          try go_wp2_with fail
          clear hHeld; refine hK.out _ _ trivial fun hHeld => ?_; clear hK K
          try simp only [Act.put, l1, l2, l3, l4, l5, l6]
          refine rd 2 fun K hK => ?_
          have fc := (st.box 0 rfl).f2
          have hcv := HCV.out _ _ (st.box 0 rfl)
          go_simp
          clear hcv
          try go_wp2_with fail
          clear hHeld fc; refine hK.out _ _ trivial fun hHeld => ?_; clear hK K
          try simp only [Act.put, l1, l2, l3, l4, l5, l6]
          refine tq 3 ?_
          try simp only [Act.put, l1, l2, l3, l4, l5, l6]
          refine rd 23 fun K hK => ?_
          have fc := (st.box 0 rfl).f2
          go_simp
          clear fc
          replace st := st.alloc 105 [.int .i64 1, .int .i64 bank, .int .i64 0, .string Kz, .int .i64 2, .int .i64 bank, .int .i64 0, .string ⟨#[]⟩, .int .i64 1, .int .i64 bank, .int .i64 24, .string D, .int .i64 1, .int .i64 bank, .int .i64 46, .string M, .int .i64 1, .int .i64 bank, .int .i64 0, .string H, .int .i64 1, .int .i64 bank, .int .i64 22, .string M]
          replace st := st.name; obtain ⟨V7, hV, st⟩ := st; rw [hV]; clear hV
          generalize V6.heap.size = g_xl at *
          try go_wp2_with fail
          clear hHeld; refine hK.out _ _ trivial fun hHeld => ?_; clear hK K
          try simp only [Act.put, l1, l2, l3, l4, l5, l6]
          refine tq 24 ?_
          try simp only [Act.put, l1, l2, l3, l4, l5, l6]
          refine wpAnyH_done (by kernel_rfl) ?_ _; clear hHeld
          have fc := And.intro (st.box 1 rfl).f2 (st.box 0 rfl).f24
          clear fc
          cases kill
          · go_wp2; go_ret; exact ⟨_, 5, rfl, ops_of_box (l := [⟨1, bank, 0, Kz⟩, ⟨2, bank, 0, ⟨#[]⟩⟩, ⟨1, bank, 24, D⟩, ⟨1, bank, 46, M⟩, ⟨1, bank, 0, H⟩, ⟨1, bank, 22, M⟩]) (st.box 0 rfl) 1, ⟨by decide, by decide⟩, st.lo⟩
          · go_wp2; go_ret; exact ⟨_, 6, rfl, ops_of_box (l := [⟨1, bank, 0, Kz⟩, ⟨2, bank, 0, ⟨#[]⟩⟩, ⟨1, bank, 24, D⟩, ⟨1, bank, 46, M⟩, ⟨1, bank, 0, H⟩, ⟨1, bank, 22, M⟩]) (st.box 0 rfl) 0, ⟨by decide, by decide⟩, st.lo⟩

end Go.Proofs.YthmpjoiifglbjaaGreat

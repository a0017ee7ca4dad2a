/- The document's own answers of layer 14: contracts only (Unpack). -/
import Derived.Test.YtkdadjojahfmeaaRows
import Derived.Test.YtkdadjojahfmeaaStatePack
import Derived.Test.YtkdadjojahfmeaaFieldRef
import Derived.Test.YtkdadjojahfmeaaBs
import Derived.WalkKit
import Derived.ProofKit
import Derived.Lib.Hide
import Derived.Deep.CutRange
import Derived.IntWalk
import Derived.OwnWalk
import Derived.Deep.RegionHeld3
import Derived.WalkLawsBesides
namespace Go.Proofs.Ytkdadjojahfmeaa
open Go.RowKit
set_option linter.unusedVariables false
set_option linter.unusedSimpArgs false

theorem put8_at {n : Nat} (h : n < 18446744073709551616) (k : Nat) (hk : k < 8) (hz : k < (putB n 8).size) : ((putB n 8)[k]).toNat = n / 256 ^ (7 - k) % 256 := by
  have e : ∀ m w : Nat, ∀ k, k < w → (putL m w)[k]? = some (UInt8.ofNat (m / 256 ^ (w - 1 - k))) := fun m w => by
    induction w with
    | zero => intro k hk; omega
    | succ w ih =>
      intro k hk
      rw [putL]
      cases k with
      | zero => simp
      | succ k => rw [List.getElem?_cons_succ, ih k (by omega), show w + 1 - 1 - (k + 1) = w - 1 - k from by omega]
  have h1 : (bl (putB n 8))[k]? = some ((putB n 8)[k]) := by
    have hl : k < (bl (putB n 8)).length := by rw [bl_length]; exact hz
    rw [List.getElem?_eq_getElem hl, bl_get _ _ hz hl]; rfl
  rw [bl_putB, show clampW 8 = 8 from rfl, e n 8 k hk] at h1
  have h2 := Option.some.inj h1
  rw [← h2, UInt8.toNat_ofNat']
theorem put8_part {n : Nat} (h : n < 18446744073709551616) (q : Nat) (hq : q + 3 ≤ 8) : getB ((putB n 8).extract q (q + 3)) = n / 256 ^ (5 - q) % 16777216 := by
  have hz : (putB n 8).size = 8 := putB_size _ _
  rw [getB_small (by rw [ByteArray.size_extract]; omega), bl_extract, bl_putB, show clampW 8 = 8 from rfl]
  have e1 : putL n 8 = putL (n / 256 ^ (5 - q)) (q + 3) ++ putL n (5 - q) := by rw [← putL_split, show q + 3 + (5 - q) = 8 from by omega]
  have e2 : putL (n / 256 ^ (5 - q)) (q + 3) = putL (n / 256 ^ (5 - q) / 256 ^ 3) q ++ putL (n / 256 ^ (5 - q)) 3 := by rw [← putL_split]
  rw [e1, List.take_left' (putL_length _ _), e2, List.drop_left' (putL_length _ _), getN_putL]
theorem u8_and7 (b : UInt8) : bits .and .u8 (b.toNat : Int) 7 = ((b.toNat % 8 : Nat) : Int) := by
  have h : (BitVec.ofInt 8 7).toNat = 2 ^ 3 - 1 := by decide
  have hb := b.toNat_lt
  show IntKind.u8.wrap ((BitVec.ofInt 8 (b.toNat : Int) &&& BitVec.ofInt 8 7).toNat : Nat) = _
  rw [BitVec.toNat_and, h, Nat.and_two_pow_sub_one_eq_mod, BitVec.ofInt_natCast, BitVec.toNat_ofNat]
  simp [IntKind.wrap, IntKind.signed, IntKind.bits]
  omega
theorem u8_and1 (x : Nat) (hx : x < 256) : bits .and .u8 (x : Int) 1 = ((x % 2 : Nat) : Int) := by
  have h : (BitVec.ofInt 8 1).toNat = 2 ^ 1 - 1 := by decide
  show IntKind.u8.wrap ((BitVec.ofInt 8 (x : Int) &&& BitVec.ofInt 8 1).toNat : Nat) = _
  rw [BitVec.toNat_and, h, Nat.and_two_pow_sub_one_eq_mod, BitVec.ofInt_natCast, BitVec.toNat_ofNat]
  simp [IntKind.wrap, IntKind.signed, IntKind.bits]
  omega

set_option maxRecDepth 100000 in
set_option maxHeartbeats 20000000 in
theorem ref14Unpack (n : Nat) (W : World) (hn : n < 18446744073709551616) : Gives Try.prog 10 #[.int .u64 (n : Int)] W (.tuple #[.agg #[.int .i64 (unpR n).mode, .bool (unpR n).armed, .bool (unpR n).home, .int .i64 (unpR n).lat, .int .i64 (unpR n).lon, .int .i64 (unpR n).iso], .int .i64 (unpE n)]) := by
  have TP := Lib.hid (fun (V : World) => ref06PutN3 n hn 8 V)
  have hz : (putB n 8).size = 8 := putB_size _ _
  have l0 : 0 < (putB n 8).size := by omega
  have l1 : 1 < (putB n 8).size := by omega
  have m0 : (0 : Int) < ((putB n 8).size : Int) := by omega
  have m1 : (1 : Int) < ((putB n 8).size : Int) := by omega
  have e0 := put8_at hn 0 (by decide) l0
  have e1 := put8_at hn 1 (by decide) l1
  have b0 := ((putB n 8)[0]).toNat_lt
  have q0 : (putB n 8)[0].toNat % 8 = n / 72057594037927936 % 8 := by rw [e0]; omega
  have q1 : (putB n 8)[0].toNat / 8 % 2 = n / 576460752303423488 % 2 := by rw [e0]; omega
  have q2 : (putB n 8)[0].toNat / 16 % 2 = n / 1152921504606846976 % 2 := by rw [e0]; omega
  have TA := Lib.hid (fun (V : World) => (show Calls Try.prog 23 #[.string (putB n 8), .int .i64 2, .int .i64 3] V fun e W' => e = .returned (.int .u64 ((n / 16777216 % 16777216 : Nat) : Int)) ∧ W' = V from by have h := ref06At3 (putB n 8) 2 V (by omega) (by omega); rw [put8_part hn 2 (by decide)] at h; exact h))
  have TO := Lib.hid (fun (V : World) => (show Calls Try.prog 23 #[.string (putB n 8), .int .i64 5, .int .i64 3] V fun e W' => e = .returned (.int .u64 ((n / 1 % 16777216 : Nat) : Int)) ∧ W' = V from by have h := ref06At3 (putB n 8) 5 V (by omega) (by omega); rw [put8_part hn 5 (by decide)] at h; exact h))
  rw [Nat.div_one] at TO
  have SA := Lib.hid (fun (V : World) => ref06Signed3 (n / 16777216 % 16777216) V (Nat.mod_lt _ (by decide)))
  have SO := Lib.hid (fun (V : World) => ref06Signed3 (n % 16777216) V (Nat.mod_lt _ (by decide)))
  obtain ⟨fm, hfm⟩ : ∃ x, n / 72057594037927936 % 8 = x := ⟨_, rfl⟩
  obtain ⟨fa, hfa⟩ : ∃ x, n / 576460752303423488 % 2 = x := ⟨_, rfl⟩
  obtain ⟨fh, hfh⟩ : ∃ x, n / 1152921504606846976 % 2 = x := ⟨_, rfl⟩
  obtain ⟨fi, hfi⟩ : ∃ x, n / 281474976710656 % 256 = x := ⟨_, rfl⟩
  obtain ⟨bA, hbA⟩ : ∃ b : Bool, (fa == 1) = b := ⟨_, rfl⟩
  obtain ⟨bH, hbH⟩ : ∃ b : Bool, (fh == 1) = b := ⟨_, rfl⟩
  obtain ⟨la, hla⟩ : ∃ x, ext24 (n / 16777216 % 16777216) = x := ⟨_, rfl⟩
  obtain ⟨lo, hlo⟩ : ∃ x, ext24 (n % 16777216) = x := ⟨_, rfl⟩
  have HS : unpS n = ⟨(fm : Int), bA, bH, la, lo, (fi : Int)⟩ := by unfold unpS; rw [hfm, hfa, hfh, hfi, hbA, hbH, hla, hlo]
  have f0 : bits .and .u8 ((putB n 8)[0].toNat : Int) 7 = (fm : Int) := by rw [u8_and7, q0, hfm]
  have f1 : bits .and .u8 (((putB n 8)[0].toNat : Int) / 8) 1 = (fa : Int) := by have h := u8_and1 ((putB n 8)[0].toNat / 8) (by omega); rw [q1, hfa] at h; exact h
  have f2 : bits .and .u8 (((putB n 8)[0].toNat : Int) / 16) 1 = (fh : Int) := by have h := u8_and1 ((putB n 8)[0].toNat / 16) (by omega); rw [q2, hfh] at h; exact h
  have f3 : ((putB n 8)[1].toNat : Int) = (fi : Int) := by rw [e1, ← hfi]
  have g1 : ((fa : Int) == 1) = bA := by rw [← hbA]; cases h : (fa == 1) with | true => exact beq_iff_eq.2 (by rw [beq_iff_eq.1 h]; rfl) | false => exact beq_eq_false_iff_ne.2 (fun k => (beq_eq_false_iff_ne.1 h) (by omega))
  have g2 : ((fh : Int) == 1) = bH := by rw [← hbH]; cases h : (fh == 1) with | true => exact beq_iff_eq.2 (by rw [beq_iff_eq.1 h]; rfl) | false => exact beq_eq_false_iff_ne.2 (fun k => (beq_eq_false_iff_ne.1 h) (by omega))
  rw [hla] at SA
  rw [hlo] at SO
  have w1 : IntKind.i64.wrap (fm : Int) = (fm : Int) := IntWalk.i64_in _ (by omega)
  have w2 : IntKind.i64.wrap (fi : Int) = (fi : Int) := IntWalk.i64_in _ (by omega)
  have TL := Lib.hid (fun (V : World) => (show Gives Try.prog 12 #[.agg #[.int .i64 (fm : Int), .bool bA, .bool bH, .int .i64 la, .int .i64 lo, .int .i64 (fi : Int)]] V (.bool (legalB (unpS n))) from by have h := ref14Legal (unpS n) V; rw [HS] at h ⊢; exact h))
  have TK := Lib.hid (fun (V : World) => (show Gives Try.prog 14 #[.agg #[.int .i64 (fm : Int), .bool bA, .bool bH, .int .i64 la, .int .i64 lo, .int .i64 (fi : Int)]] V (.int .u64 ((packN (unpS n) : Nat) : Int)) from by have h := ref14Pack (unpS n) V; rw [HS] at h ⊢; exact h))
  have HO : unpOk n = (legalB (unpS n) && packN (unpS n) == n) := rfl
  have HR : unpR n = if unpOk n then unpS n else St.zero := rfl
  have HE : unpE n = if unpOk n then 0 else 13 := rfl
  rw [HS] at HR
  generalize legalB (unpS n) = L at *
  generalize packN (unpS n) = P at *
  generalize n / 16777216 % 16777216 = xa at *
  generalize n % 16777216 = xo at *
  rw [HO] at HR HE
  replace HR := Lib.hid HR
  replace HE := Lib.hid HE
  clear HO HS e0 e1 b0 q0 q1 q2 hz hfm hfa hfh hfi hbA hbH hla hlo
  have st := Bs.in1 W 25 [.int .i64 0, .bool false, .bool false, .int .i64 0, .int .i64 0, .int .i64 0]
  go_enter Try.func10, Try.ntmps10
  have fc0 := (st.box 0 rfl).f6
  go_wp2_with fail; refine callB st (TP.out _) ?_; clear st fc0; intro V1 st
  have fc0 := (st.box 0 rfl).f6
  generalize putB n 8 = B at *
  clear fc0
  go_upto_region 2 with fail
  go_cut [5] from 8 to 31 (fun s5 w => ∃ g, s5 = .pointer (some ⟨g, 0, none⟩) ∧ Bs W w [(25, g, [.int .i64 (fm : Int), .bool bA, .bool bH, .int .i64 la, .int .i64 lo, .int .i64 (fi : Int)]), (25, W.heap.size, [.int .i64 0, .bool false, .bool false, .int .i64 0, .int .i64 0, .int .i64 0])])
  case first =>
    replace st := st.drew
    refine rh (fun w => True) trivial fun hHeld => ?_
    generalize V1.drew = V2 at *
    refine tq 0 ?_; refine tq 1 ?_; refine tq 2 ?_; refine tq 3 ?_; refine tq 4 ?_; refine tq 5 ?_; refine tq 6 ?_; refine tq 7 ?_; refine tq 8 ?_; refine tq 9 ?_; refine tq 10 ?_; refine tq 11 ?_; refine tq 12 ?_; refine tq 13 ?_; refine tq 14 ?_; refine tq 17 ?_; refine tq 20 ?_; refine tq 21 ?_; refine tq 22 ?_
    try simp only [Act.put, l1, l2, l3, l4, l5, l6]
    refine wpAnyH_ready (rs := [15, 24]) (by kernel_rfl) (by simp) (AllReadyH.cons rfl (fun K hK => ?_) (AllReadyH.cons rfl (fun K hK => ?_) (AllReadyH.nil)))
    · have fc0 := (st.box 0 rfl).f6
      go_simp
      refine callQ (TA.out _) ?_
      try go_wp2_with fail
      clear hHeld fc0; refine hK.out _ _ trivial fun hHeld => ?_; clear hK K
      try simp only [Act.put, l1, l2, l3, l4, l5, l6]
      refine wpAnyH_ready (rs := [16, 24]) (by kernel_rfl) (by simp) (AllReadyH.cons rfl (fun K hK => ?_) (AllReadyH.cons rfl (fun K hK => ?_) (AllReadyH.nil)))
      · have fc0 := (st.box 0 rfl).f6
        go_simp
        refine callQ (SA.out _) ?_
        try go_wp2_with fail
        clear hHeld fc0; refine hK.out _ _ trivial fun hHeld => ?_; clear hK K
        try simp only [Act.put, l1, l2, l3, l4, l5, l6]
        refine wpAnyH_ready (rs := [18, 24]) (by kernel_rfl) (by simp) (AllReadyH.cons rfl (fun K hK => ?_) (AllReadyH.cons rfl (fun K hK => ?_) (AllReadyH.nil)))
        · have fc0 := (st.box 0 rfl).f6
          go_simp
          refine callQ (TO.out _) ?_
          try go_wp2_with fail
          clear hHeld fc0; refine hK.out _ _ trivial fun hHeld => ?_; clear hK K
          try simp only [Act.put, l1, l2, l3, l4, l5, l6]
          refine wpAnyH_ready (rs := [19, 24]) (by kernel_rfl) (by simp) (AllReadyH.cons rfl (fun K hK => ?_) (AllReadyH.cons rfl (fun K hK => ?_) (AllReadyH.nil)))
          · have fc0 := (st.box 0 rfl).f6
            go_simp
            refine callQ (SO.out _) ?_
            try go_wp2_with fail
            clear hHeld fc0; refine hK.out _ _ trivial fun hHeld => ?_; clear hK K
            try simp only [Act.put, l1, l2, l3, l4, l5, l6]
            refine wpAnyH_ready (rs := [23, 24]) (by kernel_rfl) (by simp) (AllReadyH.cons rfl (fun K hK => ?_) (AllReadyH.cons rfl (fun K hK => ?_) (AllReadyH.nil)))
            · have fc0 := (st.box 0 rfl).f6
              go_simp
              try go_wp2_with fail
              clear hHeld fc0; refine hK.out _ _ trivial fun hHeld => ?_; clear hK K
              try simp only [Act.put, l1, l2, l3, l4, l5, l6]
              refine rd 24 fun K hK => ?_
              have fc0 := (st.box 0 rfl).f6
              go_simp
              try go_wp2_with fail
              replace st := st.alloc 25 [.int .i64 0, .bool false, .bool false, .int .i64 0, .int .i64 0, .int .i64 0]
              clear fc0
              replace st := st.name; obtain ⟨V3, hV, st⟩ := st; rw [hV]; clear hV
              generalize V2.heap.size = g_xs at *
              clear hHeld; refine hK.out _ _ trivial fun hHeld => ?_; clear hK K
              try simp only [Act.put, l1, l2, l3, l4, l5, l6]
              refine rd 25 fun K hK => ?_
              have fc0 := (st.box 1 rfl).f6; have fc1 := (st.box 0 rfl).f6
              go_simp
              try go_wp2_with fail
              clear fc0 fc1
              replace st := st.put6 0 (.int .i64 (fm : Int)) (.bool bA) (.bool bH) (.int .i64 la) (.int .i64 lo) (.int .i64 (fi : Int)) rfl; obtain ⟨V4, hV, st⟩ := st; rw [hV]; clear hV
              clear hHeld; refine hK.out _ _ trivial fun hHeld => ?_; clear hK K
              try simp only [Act.put, l1, l2, l3, l4, l5, l6]
              refine wpAnyH_done (by kernel_rfl) ?_ _; clear hHeld
              have fc0 := (st.box 1 rfl).f6; have fc1 := (st.box 0 rfl).f6
              clear fc0 fc1
              go_wp2_with fail
              go_meet
              case rel => exact ⟨_, rfl, st⟩
            · have fc0 := (st.box 0 rfl).f6
              go_simp
              try go_wp2_with fail
              replace st := st.alloc 25 [.int .i64 0, .bool false, .bool false, .int .i64 0, .int .i64 0, .int .i64 0]
              clear fc0
              replace st := st.name; obtain ⟨V3, hV, st⟩ := st; rw [hV]; clear hV
              generalize V2.heap.size = g_xs at *
              clear hHeld; refine hK.out _ _ trivial fun hHeld => ?_; clear hK K
              try simp only [Act.put, l1, l2, l3, l4, l5, l6]
              refine rd 23 fun K hK => ?_
              have fc0 := (st.box 1 rfl).f6; have fc1 := (st.box 0 rfl).f6
              go_simp
              try go_wp2_with fail
              clear hHeld fc0 fc1; refine hK.out _ _ trivial fun hHeld => ?_; clear hK K
              try simp only [Act.put, l1, l2, l3, l4, l5, l6]
              refine rd 25 fun K hK => ?_
              have fc0 := (st.box 1 rfl).f6; have fc1 := (st.box 0 rfl).f6
              go_simp
              try go_wp2_with fail
              clear fc0 fc1
              replace st := st.put6 0 (.int .i64 (fm : Int)) (.bool bA) (.bool bH) (.int .i64 la) (.int .i64 lo) (.int .i64 (fi : Int)) rfl; obtain ⟨V4, hV, st⟩ := st; rw [hV]; clear hV
              clear hHeld; refine hK.out _ _ trivial fun hHeld => ?_; clear hK K
              try simp only [Act.put, l1, l2, l3, l4, l5, l6]
              refine wpAnyH_done (by kernel_rfl) ?_ _; clear hHeld
              have fc0 := (st.box 1 rfl).f6; have fc1 := (st.box 0 rfl).f6
              clear fc0 fc1
              go_wp2_with fail
              go_meet
              case rel => exact ⟨_, rfl, st⟩
          · have fc0 := (st.box 0 rfl).f6
            go_simp
            try go_wp2_with fail
            replace st := st.alloc 25 [.int .i64 0, .bool false, .bool false, .int .i64 0, .int .i64 0, .int .i64 0]
            clear fc0
            replace st := st.name; obtain ⟨V3, hV, st⟩ := st; rw [hV]; clear hV
            generalize V2.heap.size = g_xs at *
            clear hHeld; refine hK.out _ _ trivial fun hHeld => ?_; clear hK K
            try simp only [Act.put, l1, l2, l3, l4, l5, l6]
            refine rd 19 fun K hK => ?_
            have fc0 := (st.box 1 rfl).f6; have fc1 := (st.box 0 rfl).f6
            go_simp
            refine callQ (SO.out _) ?_
            try go_wp2_with fail
            clear hHeld fc0 fc1; refine hK.out _ _ trivial fun hHeld => ?_; clear hK K
            try simp only [Act.put, l1, l2, l3, l4, l5, l6]
            refine rd 23 fun K hK => ?_
            have fc0 := (st.box 1 rfl).f6; have fc1 := (st.box 0 rfl).f6
            go_simp
            try go_wp2_with fail
            clear hHeld fc0 fc1; refine hK.out _ _ trivial fun hHeld => ?_; clear hK K
            try simp only [Act.put, l1, l2, l3, l4, l5, l6]
            refine rd 25 fun K hK => ?_
            have fc0 := (st.box 1 rfl).f6; have fc1 := (st.box 0 rfl).f6
            go_simp
            try go_wp2_with fail
            clear fc0 fc1
            replace st := st.put6 0 (.int .i64 (fm : Int)) (.bool bA) (.bool bH) (.int .i64 la) (.int .i64 lo) (.int .i64 (fi : Int)) rfl; obtain ⟨V4, hV, st⟩ := st; rw [hV]; clear hV
            clear hHeld; refine hK.out _ _ trivial fun hHeld => ?_; clear hK K
            try simp only [Act.put, l1, l2, l3, l4, l5, l6]
            refine wpAnyH_done (by kernel_rfl) ?_ _; clear hHeld
            have fc0 := (st.box 1 rfl).f6; have fc1 := (st.box 0 rfl).f6
            clear fc0 fc1
            go_wp2_with fail
            go_meet
            case rel => exact ⟨_, rfl, st⟩
        · have fc0 := (st.box 0 rfl).f6
          go_simp
          try go_wp2_with fail
          replace st := st.alloc 25 [.int .i64 0, .bool false, .bool false, .int .i64 0, .int .i64 0, .int .i64 0]
          clear fc0
          replace st := st.name; obtain ⟨V3, hV, st⟩ := st; rw [hV]; clear hV
          generalize V2.heap.size = g_xs at *
          clear hHeld; refine hK.out _ _ trivial fun hHeld => ?_; clear hK K
          try simp only [Act.put, l1, l2, l3, l4, l5, l6]
          refine rd 18 fun K hK => ?_
          have fc0 := (st.box 1 rfl).f6; have fc1 := (st.box 0 rfl).f6
          go_simp
          refine callQ (TO.out _) ?_
          try go_wp2_with fail
          clear hHeld fc0 fc1; refine hK.out _ _ trivial fun hHeld => ?_; clear hK K
          try simp only [Act.put, l1, l2, l3, l4, l5, l6]
          refine rd 19 fun K hK => ?_
          have fc0 := (st.box 1 rfl).f6; have fc1 := (st.box 0 rfl).f6
          go_simp
          refine callQ (SO.out _) ?_
          try go_wp2_with fail
          clear hHeld fc0 fc1; refine hK.out _ _ trivial fun hHeld => ?_; clear hK K
          try simp only [Act.put, l1, l2, l3, l4, l5, l6]
          refine rd 23 fun K hK => ?_
          have fc0 := (st.box 1 rfl).f6; have fc1 := (st.box 0 rfl).f6
          go_simp
          try go_wp2_with fail
          clear hHeld fc0 fc1; refine hK.out _ _ trivial fun hHeld => ?_; clear hK K
          try simp only [Act.put, l1, l2, l3, l4, l5, l6]
          refine rd 25 fun K hK => ?_
          have fc0 := (st.box 1 rfl).f6; have fc1 := (st.box 0 rfl).f6
          go_simp
          try go_wp2_with fail
          clear fc0 fc1
          replace st := st.put6 0 (.int .i64 (fm : Int)) (.bool bA) (.bool bH) (.int .i64 la) (.int .i64 lo) (.int .i64 (fi : Int)) rfl; obtain ⟨V4, hV, st⟩ := st; rw [hV]; clear hV
          clear hHeld; refine hK.out _ _ trivial fun hHeld => ?_; clear hK K
          try simp only [Act.put, l1, l2, l3, l4, l5, l6]
          refine wpAnyH_done (by kernel_rfl) ?_ _; clear hHeld
          have fc0 := (st.box 1 rfl).f6; have fc1 := (st.box 0 rfl).f6
          clear fc0 fc1
          go_wp2_with fail
          go_meet
          case rel => exact ⟨_, rfl, st⟩
      · have fc0 := (st.box 0 rfl).f6
        go_simp
        try go_wp2_with fail
        replace st := st.alloc 25 [.int .i64 0, .bool false, .bool false, .int .i64 0, .int .i64 0, .int .i64 0]
        clear fc0
        replace st := st.name; obtain ⟨V3, hV, st⟩ := st; rw [hV]; clear hV
        generalize V2.heap.size = g_xs at *
        clear hHeld; refine hK.out _ _ trivial fun hHeld => ?_; clear hK K
        try simp only [Act.put, l1, l2, l3, l4, l5, l6]
        refine rd 16 fun K hK => ?_
        have fc0 := (st.box 1 rfl).f6; have fc1 := (st.box 0 rfl).f6
        go_simp
        refine callQ (SA.out _) ?_
        try go_wp2_with fail
        clear hHeld fc0 fc1; refine hK.out _ _ trivial fun hHeld => ?_; clear hK K
        try simp only [Act.put, l1, l2, l3, l4, l5, l6]
        refine rd 18 fun K hK => ?_
        have fc0 := (st.box 1 rfl).f6; have fc1 := (st.box 0 rfl).f6
        go_simp
        refine callQ (TO.out _) ?_
        try go_wp2_with fail
        clear hHeld fc0 fc1; refine hK.out _ _ trivial fun hHeld => ?_; clear hK K
        try simp only [Act.put, l1, l2, l3, l4, l5, l6]
        refine rd 19 fun K hK => ?_
        have fc0 := (st.box 1 rfl).f6; have fc1 := (st.box 0 rfl).f6
        go_simp
        refine callQ (SO.out _) ?_
        try go_wp2_with fail
        clear hHeld fc0 fc1; refine hK.out _ _ trivial fun hHeld => ?_; clear hK K
        try simp only [Act.put, l1, l2, l3, l4, l5, l6]
        refine rd 23 fun K hK => ?_
        have fc0 := (st.box 1 rfl).f6; have fc1 := (st.box 0 rfl).f6
        go_simp
        try go_wp2_with fail
        clear hHeld fc0 fc1; refine hK.out _ _ trivial fun hHeld => ?_; clear hK K
        try simp only [Act.put, l1, l2, l3, l4, l5, l6]
        refine rd 25 fun K hK => ?_
        have fc0 := (st.box 1 rfl).f6; have fc1 := (st.box 0 rfl).f6
        go_simp
        try go_wp2_with fail
        clear fc0 fc1
        replace st := st.put6 0 (.int .i64 (fm : Int)) (.bool bA) (.bool bH) (.int .i64 la) (.int .i64 lo) (.int .i64 (fi : Int)) rfl; obtain ⟨V4, hV, st⟩ := st; rw [hV]; clear hV
        clear hHeld; refine hK.out _ _ trivial fun hHeld => ?_; clear hK K
        try simp only [Act.put, l1, l2, l3, l4, l5, l6]
        refine wpAnyH_done (by kernel_rfl) ?_ _; clear hHeld
        have fc0 := (st.box 1 rfl).f6; have fc1 := (st.box 0 rfl).f6
        clear fc0 fc1
        go_wp2_with fail
        go_meet
        case rel => exact ⟨_, rfl, st⟩
    · have fc0 := (st.box 0 rfl).f6
      go_simp
      try go_wp2_with fail
      replace st := st.alloc 25 [.int .i64 0, .bool false, .bool false, .int .i64 0, .int .i64 0, .int .i64 0]
      clear fc0
      replace st := st.name; obtain ⟨V3, hV, st⟩ := st; rw [hV]; clear hV
      generalize V2.heap.size = g_xs at *
      clear hHeld; refine hK.out _ _ trivial fun hHeld => ?_; clear hK K
      try simp only [Act.put, l1, l2, l3, l4, l5, l6]
      refine rd 15 fun K hK => ?_
      have fc0 := (st.box 1 rfl).f6; have fc1 := (st.box 0 rfl).f6
      go_simp
      refine callQ (TA.out _) ?_
      try go_wp2_with fail
      clear hHeld fc0 fc1; refine hK.out _ _ trivial fun hHeld => ?_; clear hK K
      try simp only [Act.put, l1, l2, l3, l4, l5, l6]
      refine rd 16 fun K hK => ?_
      have fc0 := (st.box 1 rfl).f6; have fc1 := (st.box 0 rfl).f6
      go_simp
      refine callQ (SA.out _) ?_
      try go_wp2_with fail
      clear hHeld fc0 fc1; refine hK.out _ _ trivial fun hHeld => ?_; clear hK K
      try simp only [Act.put, l1, l2, l3, l4, l5, l6]
      refine rd 18 fun K hK => ?_
      have fc0 := (st.box 1 rfl).f6; have fc1 := (st.box 0 rfl).f6
      go_simp
      refine callQ (TO.out _) ?_
      try go_wp2_with fail
      clear hHeld fc0 fc1; refine hK.out _ _ trivial fun hHeld => ?_; clear hK K
      try simp only [Act.put, l1, l2, l3, l4, l5, l6]
      refine rd 19 fun K hK => ?_
      have fc0 := (st.box 1 rfl).f6; have fc1 := (st.box 0 rfl).f6
      go_simp
      refine callQ (SO.out _) ?_
      try go_wp2_with fail
      clear hHeld fc0 fc1; refine hK.out _ _ trivial fun hHeld => ?_; clear hK K
      try simp only [Act.put, l1, l2, l3, l4, l5, l6]
      refine rd 23 fun K hK => ?_
      have fc0 := (st.box 1 rfl).f6; have fc1 := (st.box 0 rfl).f6
      go_simp
      try go_wp2_with fail
      clear hHeld fc0 fc1; refine hK.out _ _ trivial fun hHeld => ?_; clear hK K
      try simp only [Act.put, l1, l2, l3, l4, l5, l6]
      refine rd 25 fun K hK => ?_
      have fc0 := (st.box 1 rfl).f6; have fc1 := (st.box 0 rfl).f6
      go_simp
      try go_wp2_with fail
      clear fc0 fc1
      replace st := st.put6 0 (.int .i64 (fm : Int)) (.bool bA) (.bool bH) (.int .i64 la) (.int .i64 lo) (.int .i64 (fi : Int)) rfl; obtain ⟨V4, hV, st⟩ := st; rw [hV]; clear hV
      clear hHeld; refine hK.out _ _ trivial fun hHeld => ?_; clear hK K
      try simp only [Act.put, l1, l2, l3, l4, l5, l6]
      refine wpAnyH_done (by kernel_rfl) ?_ _; clear hHeld
      have fc0 := (st.box 1 rfl).f6; have fc1 := (st.box 0 rfl).f6
      clear fc0 fc1
      go_wp2_with fail
      go_meet
      case rel => exact ⟨_, rfl, st⟩
  case rest =>
    clear st f0 f1 f2 f3 g1 g2 w1 w2 SA SO TA TO TP
    obtain ⟨g, rfl, st⟩ := hcut
    have fc0 := (st.box 1 rfl).f6; have fc1 := (st.box 0 rfl).f6
    cases L with
    | false =>
      go_wp2_with fail; refine callB st (TL.out _) ?_; clear st fc0 fc1; intro V2 st
      have fc0 := (st.box 1 rfl).f6; have fc1 := (st.box 0 rfl).f6
      go_wp2
      clear fc0 fc1
      replace st := st.put6 1 (.int .i64 0) (.bool false) (.bool false) (.int .i64 0) (.int .i64 0) (.int .i64 0) rfl; obtain ⟨V3, hV, st⟩ := st; rw [hV]; clear hV
      have fc0 := (st.box 1 rfl).f6; have fc1 := (st.box 0 rfl).f6
      exact bodyPost_ret (v := .tuple #[.agg #[.int .i64 0, .bool false, .bool false, .int .i64 0, .int .i64 0, .int .i64 0], .int .i64 13]) (by simp [results, Try.results10, go_sem, fc0, fc1]) rfl ⟨by rw [HR.out, HE.out]; simp [St.zero], st.lo⟩
    | true =>
      by_cases hP : P = n
      · subst hP
        go_wp2_with fail; refine callB st (TL.out _) ?_; clear st fc0 fc1; intro V2 st
        have fc0 := (st.box 1 rfl).f6; have fc1 := (st.box 0 rfl).f6
        go_wp2_with fail; refine callB st (TK.out _) ?_; clear st fc0 fc1; intro V3 st
        have fc0 := (st.box 1 rfl).f6; have fc1 := (st.box 0 rfl).f6
        go_wp2
        clear fc0 fc1
        replace st := st.put6 1 (.int .i64 (fm : Int)) (.bool bA) (.bool bH) (.int .i64 la) (.int .i64 lo) (.int .i64 (fi : Int)) rfl; obtain ⟨V4, hV, st⟩ := st; rw [hV]; clear hV
        have fc0 := (st.box 1 rfl).f6; have fc1 := (st.box 0 rfl).f6
        exact bodyPost_ret (v := .tuple #[.agg #[.int .i64 (fm : Int), .bool bA, .bool bH, .int .i64 la, .int .i64 lo, .int .i64 (fi : Int)], .int .i64 0]) (by simp [results, Try.results10, go_sem, fc0, fc1]) rfl ⟨by rw [HR.out, HE.out]; simp, st.lo⟩
      · have np : ((P : Int) == (n : Int)) = false := beq_eq_false_iff_ne.2 (fun h => hP (Int.ofNat_inj.1 h))
        have nq : (P == n) = false := beq_eq_false_iff_ne.2 hP
        go_wp2_with fail; refine callB st (TL.out _) ?_; clear st fc0 fc1; intro V2 st
        have fc0 := (st.box 1 rfl).f6; have fc1 := (st.box 0 rfl).f6
        go_wp2_with fail; refine callB st (TK.out _) ?_; clear st fc0 fc1; intro V3 st
        have fc0 := (st.box 1 rfl).f6; have fc1 := (st.box 0 rfl).f6
        go_wp2
        clear fc0 fc1
        replace st := st.put6 1 (.int .i64 0) (.bool false) (.bool false) (.int .i64 0) (.int .i64 0) (.int .i64 0) rfl; obtain ⟨V4, hV, st⟩ := st; rw [hV]; clear hV
        have fc0 := (st.box 1 rfl).f6; have fc1 := (st.box 0 rfl).f6
        exact bodyPost_ret (v := .tuple #[.agg #[.int .i64 0, .bool false, .bool false, .int .i64 0, .int .i64 0, .int .i64 0], .int .i64 13]) (by simp [results, Try.results10, go_sem, fc0, fc1]) rfl ⟨by rw [HR.out, HE.out]; simp [St.zero, nq], st.lo⟩

end Go.Proofs.Ytkdadjojahfmeaa

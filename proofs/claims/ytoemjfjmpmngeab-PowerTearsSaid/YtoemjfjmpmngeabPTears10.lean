/- Of a torn program (1) or erase (2) of bank 0 or 1: one way through PowerTears: no statement is proved here. -/
import Derived.Test.YtoemjfjmpmngeabFlashEq
import Derived.Test.YtoemjfjmpmngeabPowerLaw
import Derived.Test.YtoemjfjmpmngeabPowerOpen
import Derived.Lib.Hide
import Derived.Test.YtoemjfjmpmngeabRef
import Derived.BigQuiet
import Derived.Deep.QuietTactic
import Derived.IntWalk
import Derived.ProofKit
namespace Go.Proofs.Ytoemjfjmpmngeab.PowerTears
open Go.RowKit
set_option linter.unusedVariables false
attribute [local go_sem] eqS2 eqI2 eqS2t eqI2t
theorem one_extract (s : ByteArray) (k : Nat) (h : k < s.size) : bl (s.extract k (k + 1)) = [s[k]] := by
  rw [bl_extract, List.take_succ_eq_append_getElem (by rw [bl_length]; exact h), List.drop_left' (by rw [List.length_take, bl_length]; omega)]; rfl
/-- One byte that was torn may come. -/
theorem may_one {s d T : ByteArray} {k j : Nat} {mm : UInt8} (hs : k < s.size) (hd : j < d.size) (hT : k < T.size) (h0 : T[k] = tb s[k] (gd (bl d) j 255) mm) (W : World) :
    Calls Try.prog 28 #[.string (s.extract k (k + 1)), .string (d.extract j (j + 1)), .string (T.extract k (k + 1))] W fun e W' => e = .returned (.bool true) ∧ W' = W := by
  have e1 := one_extract s k hs
  have e2 := one_extract d j hd
  have e3 := one_extract T k hT
  have z1 : (s.extract k (k + 1)).size ≤ 1 := by rw [← bl_length, e1]; exact Nat.le_refl _
  have z2 : (d.extract j (j + 1)).size ≤ 1 := by rw [← bl_length, e2]; exact Nat.le_refl _
  have z3 : (T.extract k (k + 1)).size ≤ 1 := by rw [← bl_length, e3]; exact Nat.le_refl _
  have h := refMay (s.extract k (k + 1)) (d.extract j (j + 1)) (T.extract k (k + 1)) W (by omega) (by unfold maxLen; omega) (by unfold maxLen; omega)
  have hm : mayL (bl (s.extract k (k + 1))) (bl (d.extract j (j + 1))) (bl (T.extract k (k + 1))) = true := by
    rw [e1, e2, e3, mayL_iff]
    refine ⟨rfl, fun i hi => ?_⟩
    obtain rfl : i = 0 := by simpa using hi
    rw [mayF_eq]
    show mayB s[k] d[j] T[k] = true
    rw [h0, gd_in d j 255 hd]
    rw [mayB, beq_iff_eq]
    apply ext8
    intro b hb
    simp only [tb, tB_bor, tB_bandn _ _ _ hb, tB_band, tB_zero]
    cases tB s[k] b <;> cases tB d[j] b <;> cases tB mm b <;> rfl
  rwa [hm] at h

set_option maxRecDepth 100000 in
set_option maxHeartbeats 8000000 in
theorem tears_1_0 (f : Fl) (q : Int) (d m : ByteArray) (W : World) (hf : f.ok) (ho : (⟨1, 0, q, d⟩ : PwOp).ok) (hm : m.size ≤ maxLen) (hg : bigB4 f [(⟨1, 0, q, d⟩ : PwOp)] m = false) (he : doErr f (⟨1, 0, q, d⟩ : PwOp) = 0) :
    Calls Try.prog 8 #[.agg #[.string f.b0, .string f.b1, .int .i64 f.e0, .int .i64 f.e1, .int .i64 f.lim], .agg #[.int .i64 1, .int .i64 0, .int .i64 q, .string d], .string m] W fun e W' => e = .returned (.bool true) ∧ Below W.heap.size W W' := by
  obtain ⟨hz0, hz1, hzo, hzm⟩ := bigB4_no hg
  have hfit : f.fit := ⟨hf, by omega, by omega⟩
  have hq := ho.nq
  have TB := Lib.hid (fun (V : World) (h : OpsAt V (some ⟨W.heap.size + 1 + 1, 0, none⟩) [(⟨1, 0, q, d⟩ : PwOp)]) => (show Calls Try.prog 25 #[.agg #[.string f.b0, .string f.b1, .int .i64 f.e0, .int .i64 f.e1, .int .i64 f.lim], .slice (some ⟨W.heap.size + 1 + 1, 0, none⟩) 1 1, .string m] V fun e W' => e = .returned (.bool false) ∧ Below V.heap.size V W' from by have k := big04 f [(⟨1, 0, q, d⟩ : PwOp)] (some ⟨W.heap.size + 1 + 1, 0, none⟩) 1 m V hf (fun o' ho' => by rw [List.mem_singleton.1 ho']; exact ho) h hm ⟨Nat.le_refl _, by unfold maxLen; decide⟩; rwa [hg] at k))
  have hbs : f.bank 0 = f.b0 := rfl
  have hp : progErr f 0 q d = 0 := (doErr_prog (o := (⟨1, 0, q, d⟩ : PwOp)) rfl).symm.trans he
  obtain ⟨hq0, hq1⟩ := prog_bounds hp
  rw [hbs] at hq1
  obtain ⟨p, rfl⟩ := Int.eq_ofNat_of_zero_le hq0
  rw [Int.toNat_natCast] at hq1
  have hT : tearF f (⟨1, 0, (p : Int), d⟩ : PwOp) m = ⟨spliceT f.b0 p d m, f.b1, f.e0, f.e1, f.lim⟩ := by
    rw [tearF_prog he rfl]
    show f.setBank 0 (spliceT (f.bank 0) (p : Int).toNat d m) = _
    rw [hbs, Int.toNat_natCast]
    rfl
  have hTs := spliceT_size f.b0 p d m hq1
  have hTb := gd_spliceT f.b0 p d m hq1
  have T1 := Lib.hid (fun (W : World) => (show Calls Try.prog 27 #[.agg #[.string f.b0, .string f.b1, .int .i64 f.e0, .int .i64 f.e1, .int .i64 f.lim], .agg #[.int .i64 1, .int .i64 0, .int .i64 (p : Int), .string d], .string m] W fun e W' => e = .returned (.tuple #[.agg #[.string (spliceT f.b0 p d m), .string f.b1, .int .i64 (f.e0), .int .i64 (f.e1), .int .i64 f.lim], .int .i64 0]) ∧ Below W.heap.size W W' from by have h := own04Tear f ⟨1, 0, (p : Int), d⟩ m W hfit ho hm; rwa [hT, he] at h))
  clear hT hp hbs hg he hq0
  generalize spliceT f.b0 p d m = T at *
  have hB : Below W.heap.size W (((W.alloc (.cells #[.string f.b0, .string f.b1, .int .i64 f.e0, .int .i64 f.e1, .int .i64 f.lim] 25)).alloc (.cells #[.int .i64 1, .int .i64 0, .int .i64 (p : Int), .string d] 43)).alloc (.cells #[.int .i64 1, .int .i64 0, .int .i64 (p : Int), .string d] 43)) := (((Below.refl _ _).alloc (Nat.le_refl _) _).alloc (by simp) _).alloc (by simp; omega) _
  have xf := ((Box.new 25 W [.string f.b0, .string f.b1, .int .i64 f.e0, .int .i64 f.e1, .int .i64 f.lim]).alloc (.cells #[.int .i64 1, .int .i64 0, .int .i64 (p : Int), .string d] 43)).alloc (.cells #[.int .i64 1, .int .i64 0, .int .i64 (p : Int), .string d] 43)
  have xo : Box 43 (((W.alloc (.cells #[.string f.b0, .string f.b1, .int .i64 f.e0, .int .i64 f.e1, .int .i64 f.lim] 25)).alloc (.cells #[.int .i64 1, .int .i64 0, .int .i64 (p : Int), .string d] 43)).alloc (.cells #[.int .i64 1, .int .i64 0, .int .i64 (p : Int), .string d] 43)) (W.heap.size + 1) [.int .i64 1, .int .i64 0, .int .i64 (p : Int), .string d] := by have h := (Box.new 43 (W.alloc (.cells #[.string f.b0, .string f.b1, .int .i64 f.e0, .int .i64 f.e1, .int .i64 f.lim] 25)) [.int .i64 1, .int .i64 0, .int .i64 (p : Int), .string d]).alloc (.cells #[.int .i64 1, .int .i64 0, .int .i64 (p : Int), .string d] 43); rwa [World.size_alloc] at h
  have hl : OpsAt (((W.alloc (.cells #[.string f.b0, .string f.b1, .int .i64 f.e0, .int .i64 f.e1, .int .i64 f.lim] 25)).alloc (.cells #[.int .i64 1, .int .i64 0, .int .i64 (p : Int), .string d] 43)).alloc (.cells #[.int .i64 1, .int .i64 0, .int .i64 (p : Int), .string d] 43)) (some ⟨W.heap.size + 1 + 1, 0, none⟩) [(⟨1, 0, (p : Int), d⟩ : PwOp)] := by have h := OpsAt.one ((W.alloc (.cells #[.string f.b0, .string f.b1, .int .i64 f.e0, .int .i64 f.e1, .int .i64 f.lim] 25)).alloc (.cells #[.int .i64 1, .int .i64 0, .int .i64 (p : Int), .string d] 43)) 43 (⟨1, 0, (p : Int), d⟩ : PwOp); rwa [World.size_alloc, World.size_alloc] at h
  replace hTb := Lib.hid hTb
  have w1 : IntKind.i64.wrap 1 = 1 := by decide
  have w0 : IntKind.i64.wrap 0 = 0 := by decide
  go_enter Try.func8, Try.ntmps8
  go_wp2_with fail
  refine (TB.out _ hl).mono ?_
  rintro e W1 ⟨rfl, k1⟩
  replace hB := below_seq hB k1
  replace xf := xf.seq k1
  replace xo := xo.seq k1
  clear k1
  have xf0 := xf.cell 0 rfl
  have xf1 := xf.cell 1 rfl
  have xf2 := xf.cell 2 rfl
  have xf3 := xf.cell 3 rfl
  have xf4 := xf.cell 4 rfl
  have xo0 := xo.cell 0 rfl
  have xo1 := xo.cell 1 rfl
  have xo2 := xo.cell 2 rfl
  have xo3 := xo.cell 3 rfl
  clear hl
  go_wp2_with fail
  refine (shown04 _).mono ?_
  rintro e W2 ⟨rfl, k2⟩
  replace hB := below_seq hB k2
  replace xf := xf.seq k2
  replace xo := xo.seq k2
  clear k2
  clear xf0 xf1 xf2 xf3 xf4
  have xf0 := xf.cell 0 rfl
  have xf1 := xf.cell 1 rfl
  have xf2 := xf.cell 2 rfl
  have xf3 := xf.cell 3 rfl
  have xf4 := xf.cell 4 rfl
  clear xo0 xo1 xo2 xo3
  have xo0 := xo.cell 0 rfl
  have xo1 := xo.cell 1 rfl
  have xo2 := xo.cell 2 rfl
  have xo3 := xo.cell 3 rfl
  go_wp2_with fail
  refine (T1.out _).mono ?_
  rintro e W3 ⟨rfl, k3⟩
  replace hB := below_seq hB k3
  replace xf := xf.seq k3
  replace xo := xo.seq k3
  clear k3
  clear xf0 xf1 xf2 xf3 xf4
  have xf0 := xf.cell 0 rfl
  have xf1 := xf.cell 1 rfl
  have xf2 := xf.cell 2 rfl
  have xf3 := xf.cell 3 rfl
  have xf4 := xf.cell 4 rfl
  clear xo0 xo1 xo2 xo3
  have xo0 := xo.cell 0 rfl
  have xo1 := xo.cell 1 rfl
  have xo2 := xo.cell 2 rfl
  have xo3 := xo.cell 3 rfl
  have xa := Box.new 25 W3 [.string T, .string f.b1, .int .i64 (f.e0), .int .i64 (f.e1), .int .i64 f.lim]
  replace xf := xf.alloc (.cells #[.string T, .string f.b1, .int .i64 (f.e0), .int .i64 (f.e1), .int .i64 f.lim] 25)
  replace xo := xo.alloc (.cells #[.string T, .string f.b1, .int .i64 (f.e0), .int .i64 (f.e1), .int .i64 f.lim] 25)
  replace hB := hB.alloc hB.size (.cells #[.string T, .string f.b1, .int .i64 (f.e0), .int .i64 (f.e1), .int .i64 f.lim] 25)
  clear xf0 xf1 xf2 xf3 xf4
  have xf0 := xf.cell 0 rfl
  have xf1 := xf.cell 1 rfl
  have xf2 := xf.cell 2 rfl
  have xf3 := xf.cell 3 rfl
  have xf4 := xf.cell 4 rfl
  clear xo0 xo1 xo2 xo3
  have xo0 := xo.cell 0 rfl
  have xo1 := xo.cell 1 rfl
  have xo2 := xo.cell 2 rfl
  have xo3 := xo.cell 3 rfl
  have xa0 := xa.cell 0 rfl
  have xa1 := xa.cell 1 rfl
  have xa2 := xa.cell 2 rfl
  have xa3 := xa.cell 3 rfl
  have xa4 := xa.cell 4 rfl
  go_wp2_with fail
  go_quiet (fail)
  replace hB := below_drewN0 hB nq
  replace xo := xo.drewN nq
  clear xf0 xf1 xf2 xf3 xf4 xo0 xo1 xo2 xo3 xa0 xa1 xa2 xa3 xa4 xf xa
  generalize (W3.alloc (.cells #[.string T, .string f.b1, .int .i64 (f.e0), .int .i64 (f.e1), .int .i64 f.lim] 25)).drewN nq = V at *
  go_wp2
  go_loopw [11, 12] (fun v _ w => ∃ k : Nat, k ≤ f.b0.size ∧ v = .int .i64 k ∧ Box 43 w (W.heap.size + 1) [.int .i64 1, .int .i64 0, .int .i64 (p : Int), .string d] ∧ Below W.heap.size W w)
    (fun v _ _ => f.b0.size - (intOf v).toNat)
  case atStart => exact ⟨0, Nat.zero_le _, rfl, xo, hB⟩
  case round =>
    clear xo hB
    obtain ⟨k, hk, rfl, xo, hB⟩ := hrel
    by_cases hlt : k < f.b0.size
    · have xo0 := xo.cell 0 rfl
      have xo1 := xo.cell 1 rfl
      have xo2 := xo.cell 2 rfl
      have xo3 := xo.cell 3 rfl
      have hlt2 : k < T.size := by omega
      have i0 : (0 : Int) ≤ (k : Int) := by omega
      have i1 : (k : Int) < (f.b0.size : Int) := by omega
      have i2 : (k : Int) < (T.size : Int) := by omega
      have hTk := hTb.out k
      rw [gd_in T k 0 hlt2, gd_in f.b0 k 0 hlt] at hTk
      by_cases hm1 : p ≤ k
      · by_cases hm2 : k - p < d.size
        · obtain ⟨j, rfl⟩ : ∃ j, k = p + j := ⟨k - p, by omega⟩
          rw [if_pos ⟨by omega, by omega⟩] at hTk
          have hj : j < d.size := by omega
          have HM := Lib.hid (may_one hlt hj hlt2 (by rw [hTk, show p + j - p = j from by omega]))
          clear hTk
          have g1 : (p : Int) ≤ (p : Int) + (j : Int) := by omega
          have g2 : (j : Int) < (d.size : Int) := by omega
          have g3 : IntKind.i64.wrap ((p : Int) + (j : Int) - (p : Int)) = (j : Int) := by rw [show (p : Int) + (j : Int) - (p : Int) = (j : Int) from by omega]; exact IntWalk.i64_in _ (by omega)
          have g4 : IntKind.i64.wrap ((j : Int) + 1) = (j : Int) + 1 := IntWalk.i64_in _ (by omega)
          have g5 : IntKind.i64.wrap ((p : Int) + (j : Int) + 1) = (p : Int) + (j : Int) + 1 := IntWalk.i64_in _ (by omega)
          have g6 : ((j : Int) + 1).toNat = j + 1 := by omega
          have g7 : ((p : Int) + (j : Int) + 1).toNat = p + j + 1 := by omega
          have g8 : ((p : Int) + (j : Int)).toNat = p + j := by omega
          have s1 : (0 : Int) ≤ (p : Int) + (j : Int) := by omega
          have s2 : (p : Int) + (j : Int) ≤ (p : Int) + (j : Int) + 1 := by omega
          have s3 : (p : Int) + (j : Int) + 1 ≤ (f.b0.size : Int) := by omega
          have s4 : (p : Int) + (j : Int) + 1 ≤ (T.size : Int) := by omega
          have s5 : (j : Int) ≤ (j : Int) + 1 := by omega
          have s6 : (j : Int) + 1 ≤ (d.size : Int) := by omega
          have s7 : (0 : Int) ≤ (j : Int) := by omega
          go_wp2_with fail
          go_quiet (fail)
          replace hB := below_drewN0 hB nq
          replace xo := xo.drewN nq
          generalize wr.drewN nq = V at *
          have yo0 := xo.cell 0 rfl
          have yo1 := xo.cell 1 rfl
          have yo2 := xo.cell 2 rfl
          have yo3 := xo.cell 3 rfl
          go_wp2_with fail
          go_quiet (((go_at_call 28; exact Calls.quiet_of_same (HM.out _))))
          replace hB := below_drewN0 hB nq
          replace xo := xo.drewN nq
          generalize V.drewN nq = V2 at *
          go_wp2
          go_roundw
          case rel => exact ⟨p + j + 1, by omega, by go_num, xo, hB⟩
          case measure => simp [intOf]; omega
        · have g1 : ¬ (k : Int) - (p : Int) < (d.size : Int) := by omega
          rw [if_neg (by omega)] at hTk
          have g2 : ((T[k].toNat : Int) != (f.b0[k].toNat : Int)) = false := by rw [hTk]; simp
          have g3 : (p : Int) ≤ (k : Int) := by omega
          clear hTk
          go_wp2_with fail
          go_quiet (fail)
          replace hB := below_drewN0 hB nq
          replace xo := xo.drewN nq
          generalize wr.drewN nq = V at *
          have yo0 := xo.cell 0 rfl
          have yo1 := xo.cell 1 rfl
          have yo2 := xo.cell 2 rfl
          have yo3 := xo.cell 3 rfl
          go_wp2_with fail
          go_quiet (fail)
          replace hB := below_drewN0 hB nq
          replace xo := xo.drewN nq
          generalize V.drewN nq = V2 at *
          go_wp2
          go_roundw
          case rel => exact ⟨k + 1, by omega, by go_num, xo, hB⟩
          case measure => simp [intOf]; omega
      · have g1 : ¬ (p : Int) ≤ (k : Int) := by omega
        rw [if_neg (by omega)] at hTk
        have g2 : ((T[k].toNat : Int) != (f.b0[k].toNat : Int)) = false := by rw [hTk]; simp
        clear hTk
        go_wp2_with fail
        go_quiet (fail)
        replace hB := below_drewN0 hB nq
        replace xo := xo.drewN nq
        generalize wr.drewN nq = V at *
        have yo0 := xo.cell 0 rfl
        have yo1 := xo.cell 1 rfl
        have yo2 := xo.cell 2 rfl
        have yo3 := xo.cell 3 rfl
        go_wp2_with fail
        go_quiet (fail)
        replace hB := below_drewN0 hB nq
        replace xo := xo.drewN nq
        generalize V.drewN nq = V2 at *
        go_wp2
        go_roundw
        case rel => exact ⟨k + 1, by omega, by go_num, xo, hB⟩
        case measure => simp [intOf]; omega
    · obtain rfl : k = f.b0.size := by omega
      go_wp2
      go_ret
      exact ⟨rfl, hB⟩

end Go.Proofs.Ytoemjfjmpmngeab.PowerTears

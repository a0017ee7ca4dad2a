/- Of a torn program (1) or erase (2) of bank 0 or 1: one way through PowerTears: no statement is proved here. -/
import Derived.Test.YtoemjfjmpmngeabPTears10
import Derived.ProofKit
namespace Go.Proofs.Ytoemjfjmpmngeab.PowerTears
open Go.RowKit
set_option linter.unusedVariables false
attribute [local go_sem] eqS2 eqI2 eqS2t eqI2t

set_option maxRecDepth 100000 in
set_option maxHeartbeats 8000000 in
theorem tears_2_1 (f : Fl) (q : Int) (d m : ByteArray) (W : World) (hf : f.ok) (ho : (⟨2, 1, q, d⟩ : PwOp).ok) (hm : m.size ≤ maxLen) (hg : bigB4 f [(⟨2, 1, q, d⟩ : PwOp)] m = false) (he : doErr f (⟨2, 1, q, d⟩ : PwOp) = 0) :
    Calls Try.prog 8 #[.agg #[.string f.b0, .string f.b1, .int .i64 f.e0, .int .i64 f.e1, .int .i64 f.lim], .agg #[.int .i64 2, .int .i64 1, .int .i64 q, .string d], .string m] W fun e W' => e = .returned (.bool true) ∧ Below W.heap.size W W' := by
  obtain ⟨hz0, hz1, hzo, hzm⟩ := bigB4_no hg
  have hfit : f.fit := ⟨hf, by omega, by omega⟩
  have hq := ho.nq
  have TB := Lib.hid (fun (V : World) (h : OpsAt V (some ⟨W.heap.size + 1 + 1, 0, none⟩) [(⟨2, 1, q, d⟩ : PwOp)]) => (show Calls Try.prog 25 #[.agg #[.string f.b0, .string f.b1, .int .i64 f.e0, .int .i64 f.e1, .int .i64 f.lim], .slice (some ⟨W.heap.size + 1 + 1, 0, none⟩) 1 1, .string m] V fun e W' => e = .returned (.bool false) ∧ Below V.heap.size V W' from by have k := big04 f [(⟨2, 1, q, d⟩ : PwOp)] (some ⟨W.heap.size + 1 + 1, 0, none⟩) 1 m V hf (fun o' ho' => by rw [List.mem_singleton.1 ho']; exact ho) h hm ⟨Nat.le_refl _, by unfold maxLen; decide⟩; rwa [hg] at k))
  have hbs : f.bank 1 = f.b1 := if_neg (by decide)
  have hp : eraseErr f 1 = 0 := (doErr_erase (o := (⟨2, 1, q, d⟩ : PwOp)) rfl).symm.trans he
  have hT : tearF f (⟨2, 1, q, d⟩ : PwOp) m = ⟨f.b0, eraT f.b1 m, f.e0, f.e1 + 1, f.lim⟩ := by
    rw [tearF_erase he rfl]
    show (eraseF f 1).setBank 1 (eraT (f.bank 1) m) = _
    rw [eraseF_banks hp, hbs]
    rw [if_neg (by decide)]; exact if_neg (by decide)
  have hTs := eraT_size f.b1 m
  have hTb := gd_eraT f.b1 m
  have T1 := Lib.hid (fun (W : World) => (show Calls Try.prog 27 #[.agg #[.string f.b0, .string f.b1, .int .i64 f.e0, .int .i64 f.e1, .int .i64 f.lim], .agg #[.int .i64 2, .int .i64 1, .int .i64 q, .string d], .string m] W fun e W' => e = .returned (.tuple #[.agg #[.string f.b0, .string (eraT f.b1 m), .int .i64 (f.e0), .int .i64 (f.e1 + 1), .int .i64 f.lim], .int .i64 0]) ∧ Below W.heap.size W W' from by have h := own04Tear f (⟨2, 1, q, d⟩ : PwOp) m W hfit ho hm; rwa [hT, he] at h))
  clear hT hp hbs hg he
  generalize eraT f.b1 m = T at *
  have hB : Below W.heap.size W (((W.alloc (.cells #[.string f.b0, .string f.b1, .int .i64 f.e0, .int .i64 f.e1, .int .i64 f.lim] 25)).alloc (.cells #[.int .i64 2, .int .i64 1, .int .i64 q, .string d] 43)).alloc (.cells #[.int .i64 2, .int .i64 1, .int .i64 q, .string d] 43)) := (((Below.refl _ _).alloc (Nat.le_refl _) _).alloc (by simp) _).alloc (by simp; omega) _
  have xf := ((Box.new 25 W [.string f.b0, .string f.b1, .int .i64 f.e0, .int .i64 f.e1, .int .i64 f.lim]).alloc (.cells #[.int .i64 2, .int .i64 1, .int .i64 q, .string d] 43)).alloc (.cells #[.int .i64 2, .int .i64 1, .int .i64 q, .string d] 43)
  have xo : Box 43 (((W.alloc (.cells #[.string f.b0, .string f.b1, .int .i64 f.e0, .int .i64 f.e1, .int .i64 f.lim] 25)).alloc (.cells #[.int .i64 2, .int .i64 1, .int .i64 q, .string d] 43)).alloc (.cells #[.int .i64 2, .int .i64 1, .int .i64 q, .string d] 43)) (W.heap.size + 1) [.int .i64 2, .int .i64 1, .int .i64 q, .string d] := by have h := (Box.new 43 (W.alloc (.cells #[.string f.b0, .string f.b1, .int .i64 f.e0, .int .i64 f.e1, .int .i64 f.lim] 25)) [.int .i64 2, .int .i64 1, .int .i64 q, .string d]).alloc (.cells #[.int .i64 2, .int .i64 1, .int .i64 q, .string d] 43); rwa [World.size_alloc] at h
  have hl : OpsAt (((W.alloc (.cells #[.string f.b0, .string f.b1, .int .i64 f.e0, .int .i64 f.e1, .int .i64 f.lim] 25)).alloc (.cells #[.int .i64 2, .int .i64 1, .int .i64 q, .string d] 43)).alloc (.cells #[.int .i64 2, .int .i64 1, .int .i64 q, .string d] 43)) (some ⟨W.heap.size + 1 + 1, 0, none⟩) [(⟨2, 1, q, d⟩ : PwOp)] := by have h := OpsAt.one ((W.alloc (.cells #[.string f.b0, .string f.b1, .int .i64 f.e0, .int .i64 f.e1, .int .i64 f.lim] 25)).alloc (.cells #[.int .i64 2, .int .i64 1, .int .i64 q, .string d] 43)) 43 (⟨2, 1, q, d⟩ : PwOp); rwa [World.size_alloc, World.size_alloc] at h
  replace hTb := Lib.hid hTb
  have w1 : IntKind.i64.wrap 1 = 1 := by decide
  have w0 : IntKind.i64.wrap 0 = 0 := by decide
  go_enter Try.func8, Try.ntmps8
  go_wp2_with fail
  refine (TB.out _ hl).mono ?_
  rintro e W1 ⟨rfl, k1⟩
  replace hB := below_seq hB k1
  replace xf := xf.seq k1
  replace xo := xo.seq k1
  clear k1
  have xf0 := xf.cell 0 rfl
  have xf1 := xf.cell 1 rfl
  have xf2 := xf.cell 2 rfl
  have xf3 := xf.cell 3 rfl
  have xf4 := xf.cell 4 rfl
  have xo0 := xo.cell 0 rfl
  have xo1 := xo.cell 1 rfl
  have xo2 := xo.cell 2 rfl
  have xo3 := xo.cell 3 rfl
  clear hl
  go_wp2_with fail
  refine (shown04 _).mono ?_
  rintro e W2 ⟨rfl, k2⟩
  replace hB := below_seq hB k2
  replace xf := xf.seq k2
  replace xo := xo.seq k2
  clear k2
  clear xf0 xf1 xf2 xf3 xf4
  have xf0 := xf.cell 0 rfl
  have xf1 := xf.cell 1 rfl
  have xf2 := xf.cell 2 rfl
  have xf3 := xf.cell 3 rfl
  have xf4 := xf.cell 4 rfl
  clear xo0 xo1 xo2 xo3
  have xo0 := xo.cell 0 rfl
  have xo1 := xo.cell 1 rfl
  have xo2 := xo.cell 2 rfl
  have xo3 := xo.cell 3 rfl
  go_wp2_with fail
  refine (T1.out _).mono ?_
  rintro e W3 ⟨rfl, k3⟩
  replace hB := below_seq hB k3
  replace xf := xf.seq k3
  replace xo := xo.seq k3
  clear k3
  clear xf0 xf1 xf2 xf3 xf4
  have xf0 := xf.cell 0 rfl
  have xf1 := xf.cell 1 rfl
  have xf2 := xf.cell 2 rfl
  have xf3 := xf.cell 3 rfl
  have xf4 := xf.cell 4 rfl
  clear xo0 xo1 xo2 xo3
  have xo0 := xo.cell 0 rfl
  have xo1 := xo.cell 1 rfl
  have xo2 := xo.cell 2 rfl
  have xo3 := xo.cell 3 rfl
  have xa := Box.new 25 W3 [.string f.b0, .string T, .int .i64 (f.e0), .int .i64 (f.e1 + 1), .int .i64 f.lim]
  replace xf := xf.alloc (.cells #[.string f.b0, .string T, .int .i64 (f.e0), .int .i64 (f.e1 + 1), .int .i64 f.lim] 25)
  replace xo := xo.alloc (.cells #[.string f.b0, .string T, .int .i64 (f.e0), .int .i64 (f.e1 + 1), .int .i64 f.lim] 25)
  replace hB := hB.alloc hB.size (.cells #[.string f.b0, .string T, .int .i64 (f.e0), .int .i64 (f.e1 + 1), .int .i64 f.lim] 25)
  clear xf0 xf1 xf2 xf3 xf4
  have xf0 := xf.cell 0 rfl
  have xf1 := xf.cell 1 rfl
  have xf2 := xf.cell 2 rfl
  have xf3 := xf.cell 3 rfl
  have xf4 := xf.cell 4 rfl
  clear xo0 xo1 xo2 xo3
  have xo0 := xo.cell 0 rfl
  have xo1 := xo.cell 1 rfl
  have xo2 := xo.cell 2 rfl
  have xo3 := xo.cell 3 rfl
  have xa0 := xa.cell 0 rfl
  have xa1 := xa.cell 1 rfl
  have xa2 := xa.cell 2 rfl
  have xa3 := xa.cell 3 rfl
  have xa4 := xa.cell 4 rfl
  go_wp2_with fail
  go_quiet (fail)
  replace hB := below_drewN0 hB nq
  replace xo := xo.drewN nq
  clear xf0 xf1 xf2 xf3 xf4 xo0 xo1 xo2 xo3 xa0 xa1 xa2 xa3 xa4 xf xa
  generalize (W3.alloc (.cells #[.string f.b0, .string T, .int .i64 (f.e0), .int .i64 (f.e1 + 1), .int .i64 f.lim] 25)).drewN nq = V at *
  go_wp2
  go_loopw [11, 12] (fun v _ w => ∃ k : Nat, k ≤ f.b1.size ∧ v = .int .i64 k ∧ Box 43 w (W.heap.size + 1) [.int .i64 2, .int .i64 1, .int .i64 q, .string d] ∧ Below W.heap.size W w)
    (fun v _ _ => f.b1.size - (intOf v).toNat)
  case atStart => exact ⟨0, Nat.zero_le _, rfl, xo, hB⟩
  case round =>
    clear xo hB
    obtain ⟨k, hk, rfl, xo, hB⟩ := hrel
    by_cases hlt : k < f.b1.size
    · have xo0 := xo.cell 0 rfl
      have xo1 := xo.cell 1 rfl
      have xo2 := xo.cell 2 rfl
      have xo3 := xo.cell 3 rfl
      have hlt2 : k < T.size := by omega
      have i0 : (0 : Int) ≤ (k : Int) := by omega
      have i1 : (k : Int) < (f.b1.size : Int) := by omega
      have i2 : (k : Int) < (T.size : Int) := by omega
      have hTk := hTb.out k hlt 0
      rw [gd_in T k 0 hlt2, gd_in f.b1 k 0 hlt] at hTk
      have hc : T[k] = f.b1[k] ∨ (T[k] ≠ f.b1[k] ∧ T[k] = 255) := by
        rw [hTk]; unfold eraB; split
        · by_cases hx : (255 : UInt8) = f.b1[k]
          · exact .inl hx
          · exact .inr ⟨hx, rfl⟩
        · exact .inl rfl
      clear hTk
      by_cases hm1 : q ≤ (k : Int)
      · rcases hc with hc | ⟨hc1, hc2⟩
        · have g2 : ((T[k].toNat : Int) != (f.b1[k].toNat : Int)) = false := by rw [hc]; simp
          clear hc
          go_wp2_with fail
          go_quiet (fail)
          replace hB := below_drewN0 hB nq
          replace xo := xo.drewN nq
          generalize wr.drewN nq = V at *
          have yo0 := xo.cell 0 rfl
          have yo1 := xo.cell 1 rfl
          have yo2 := xo.cell 2 rfl
          have yo3 := xo.cell 3 rfl
          go_wp2_with fail
          go_quiet (fail)
          replace hB := below_drewN0 hB nq
          replace xo := xo.drewN nq
          generalize V.drewN nq = V2 at *
          go_wp2
          go_roundw
          case rel => exact ⟨k + 1, by omega, by go_num, xo, hB⟩
          case measure => simp [intOf]; omega
        · have g2 : ((T[k].toNat : Int) != (f.b1[k].toNat : Int)) = true := by rw [bne_iff_ne]; intro h; exact hc1 (UInt8.toNat_inj.1 (by omega))
          have g3 : ((T[k].toNat : Int) != 255) = false := by rw [hc2]; rfl
          clear hc1 hc2
          go_wp2_with fail
          go_quiet (fail)
          replace hB := below_drewN0 hB nq
          replace xo := xo.drewN nq
          generalize wr.drewN nq = V at *
          have yo0 := xo.cell 0 rfl
          have yo1 := xo.cell 1 rfl
          have yo2 := xo.cell 2 rfl
          have yo3 := xo.cell 3 rfl
          go_wp2_with fail
          go_quiet (fail)
          replace hB := below_drewN0 hB nq
          replace xo := xo.drewN nq
          generalize V.drewN nq = V2 at *
          go_wp2
          go_roundw
          case rel => exact ⟨k + 1, by omega, by go_num, xo, hB⟩
          case measure => simp [intOf]; omega
      · rcases hc with hc | ⟨hc1, hc2⟩
        · have g2 : ((T[k].toNat : Int) != (f.b1[k].toNat : Int)) = false := by rw [hc]; simp
          clear hc
          go_wp2_with fail
          go_quiet (fail)
          replace hB := below_drewN0 hB nq
          replace xo := xo.drewN nq
          generalize wr.drewN nq = V at *
          have yo0 := xo.cell 0 rfl
          have yo1 := xo.cell 1 rfl
          have yo2 := xo.cell 2 rfl
          have yo3 := xo.cell 3 rfl
          go_wp2_with fail
          go_quiet (fail)
          replace hB := below_drewN0 hB nq
          replace xo := xo.drewN nq
          generalize V.drewN nq = V2 at *
          go_wp2
          go_roundw
          case rel => exact ⟨k + 1, by omega, by go_num, xo, hB⟩
          case measure => simp [intOf]; omega
        · have g2 : ((T[k].toNat : Int) != (f.b1[k].toNat : Int)) = true := by rw [bne_iff_ne]; intro h; exact hc1 (UInt8.toNat_inj.1 (by omega))
          have g3 : ((T[k].toNat : Int) != 255) = false := by rw [hc2]; rfl
          clear hc1 hc2
          go_wp2_with fail
          go_quiet (fail)
          replace hB := below_drewN0 hB nq
          replace xo := xo.drewN nq
          generalize wr.drewN nq = V at *
          have yo0 := xo.cell 0 rfl
          have yo1 := xo.cell 1 rfl
          have yo2 := xo.cell 2 rfl
          have yo3 := xo.cell 3 rfl
          go_wp2_with fail
          go_quiet (fail)
          replace hB := below_drewN0 hB nq
          replace xo := xo.drewN nq
          generalize V.drewN nq = V2 at *
          go_wp2
          go_roundw
          case rel => exact ⟨k + 1, by omega, by go_num, xo, hB⟩
          case measure => simp [intOf]; omega
    · obtain rfl : k = f.b1.size := by omega
      go_wp2
      go_ret
      exact ⟨rfl, hB⟩

end Go.Proofs.Ytoemjfjmpmngeab.PowerTears

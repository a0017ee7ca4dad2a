/- What is programmed changes these bytes of that bank alone, and sets no bit (FlashKeeps); no condition. -/
import Derived.Test.YtoemjfjmpmngeabRef
import Derived.Deep.RegionHeld3
import Derived.Test.YtoemjfjmpmngeabFlashEq
import Derived.Test.YtoemjfjmpmngeabFlashOwn
import Derived.Test.YtoemjfjmpmngeabFlashPlain
import Derived.Test.YtoemjfjmpmngeabFlashOpen
import Derived.ProofKit
import Derived.OpenShut
import Derived.ChangeMaps5
import Derived.Test.YtoemjfjmpmngeabInts
namespace Go.Proofs.Ytoemjfjmpmngeab.FlashKeeps
open Go.ChangeShapes Go.WideShapes Go.ChangeAt Go.RowKit Go.ChangeMaps
set_option linter.unusedVariables false
attribute [local go_sem] eqS2 eqI2 eqS2t eqI2t

set_option maxRecDepth 100000 in
set_option maxHeartbeats 4000000 in
theorem walk (f : Fl) (bank : Int) (q : Int) (d : ByteArray) (W : World) (hf : f.ok) (hbank : -9223372036854775808 ≤ bank ∧ bank ≤ 9223372036854775807) (hq : -9223372036854775808 ≤ q ∧ q ≤ 9223372036854775807) (hd : d.size ≤ maxLen) :
    Calls Try.prog 3 #[.agg #[.string f.b0, .string f.b1, .int .i64 f.e0, .int .i64 f.e1, .int .i64 f.lim], .int .i64 bank, .int .i64 q, .string d] W fun e W' => e = .returned (.bool true) ∧ Below W.heap.size W W' := by
  have hd0 := hd
  unfold maxLen at hd0
  by_cases hg : bigB f = true
  · have TB := Lib.hid (fun W => (show Calls Try.prog 15 #[.agg #[.string f.b0, .string f.b1, .int .i64 f.e0, .int .i64 f.e1, .int .i64 f.lim]] W fun e W' => e = .returned (.bool true) ∧ Below W.heap.size W W' from by have h := flBig f W hf; rwa [hg] at h))
    clear hg
    go_enter Try.func3, Try.ntmps3
    have hB : Below W.heap.size W (W.alloc (.cells #[.string f.b0, .string f.b1, .int .i64 f.e0, .int .i64 f.e1, .int .i64 f.lim] 25)) := (Below.refl _ _).alloc (Nat.le_refl _) _
    have xf := FlBox.new 25 W f
    go_wp2_with fail
    refine (TB.out _).mono ?_
    rintro e W1 ⟨rfl, k1⟩
    replace hB := below_seq hB k1
    replace xf := xf.seq k1
    clear k1
    obtain ⟨xf0, xf1, xf2, xf3, xf4⟩ := xf.cells
    go_wp2_with fail
    refine (flShown _).mono ?_
    rintro e W2 ⟨rfl, k2⟩
    replace hB := below_seq hB k2
    replace xf := xf.seq k2
    clear k2
    clear xf0 xf1 xf2 xf3 xf4
    obtain ⟨xf0, xf1, xf2, xf3, xf4⟩ := xf.cells
    go_wp2
    go_ret
    exact ⟨rfl, hB⟩
  · have TB := Lib.hid (fun W => (show Calls Try.prog 15 #[.agg #[.string f.b0, .string f.b1, .int .i64 f.e0, .int .i64 f.e1, .int .i64 f.lim]] W fun e W' => e = .returned (.bool false) ∧ Below W.heap.size W W' from by have h := flBig f W hf; rwa [show bigB f = false from by simpa using hg] at h))
    have hbig := bigB_no (show bigB f = false from by simpa using hg)
    obtain ⟨hz0, hz1⟩ := hbig
    replace hf : f.fit := ⟨hf, by omega, by omega⟩
    clear hg
    by_cases hc0 : 500 < d.size
    · go_enter Try.func3, Try.ntmps3
      have hB : Below W.heap.size W (W.alloc (.cells #[.string f.b0, .string f.b1, .int .i64 f.e0, .int .i64 f.e1, .int .i64 f.lim] 25)) := (Below.refl _ _).alloc (Nat.le_refl _) _
      have xf := FlBox.new 25 W f
      go_wp2_with fail
      refine (TB.out _).mono ?_
      rintro e W1 ⟨rfl, k1⟩
      replace hB := below_seq hB k1
      replace xf := xf.seq k1
      clear k1
      obtain ⟨xf0, xf1, xf2, xf3, xf4⟩ := xf.cells
      go_wp2_with fail
      refine (flShown _).mono ?_
      rintro e W2 ⟨rfl, k2⟩
      replace hB := below_seq hB k2
      replace xf := xf.seq k2
      clear k2
      clear xf0 xf1 xf2 xf3 xf4
      obtain ⟨xf0, xf1, xf2, xf3, xf4⟩ := xf.cells
      go_wp2
      go_ret
      exact ⟨rfl, hB⟩
    · have hd0 : ¬ (500 < d.size) := hc0
      by_cases hp : progErr f bank q d = 0
      · have hb01 := (readErr_zero.1 (progErr_ok hp)).1
        rcases hb01 with rfl | rfl
        · have hbs : f.bank 0 = f.b0 := rfl
          obtain ⟨hq0, hq1⟩ := prog_bounds hp
          rw [hbs] at hq1
          obtain ⟨p, rfl⟩ := Int.eq_ofNat_of_zero_le hq0
          rw [Int.toNat_natCast] at hq1
          have hF : progF f 0 (p : Int) d = ⟨splice f.b0 p d, f.b1, f.e0, f.e1, f.lim⟩ := by
            rw [show progF f 0 (p : Int) d = f.setBank 0 (splice (f.bank 0) (p : Int).toNat d) from if_pos hp, hbs, Int.toNat_natCast]
            rfl
          have e1 := splice_size f.b0 p d hq1
          have e2 := splice_low f.b0 p d hq1
          have e3 := splice_high f.b0 p d hq1
          have e4 := splice_bits f.b0 p d hq1
          have e5 := splice_and f.b0 p d hq1
          have TP := Lib.hid (fun (W : World) => (show Calls Try.prog 17 #[.agg #[.string f.b0, .string f.b1, .int .i64 f.e0, .int .i64 f.e1, .int .i64 f.lim], .int .i64 0, .int .i64 (p : Int), .string d] W fun e W' => e = .returned (.tuple #[.agg #[.string (splice f.b0 p d), .string f.b1, .int .i64 f.e0, .int .i64 f.e1, .int .i64 f.lim], .int .i64 0]) ∧ Below W.heap.size W W' from by
            have h := flProgram f 0 (p : Int) d W hf hd
            rwa [hF, hp] at h))
          clear hF hp hbs hq0
          generalize splice f.b0 p d = T at *
          have TBT := Lib.hid (fun (W : World) => (show Calls Try.prog 18 #[.string T, .string f.b0] W fun e W' => e = .returned (.int .i64 0) ∧ W' = W from by
            have h := refBits T f.b0 W (by omega) (by unfold maxLen; omega)
            rwa [e4] at h))
          have TAN := Lib.hid (fun (W : World) => (show Calls Try.prog 19 #[.string (T.extract p (p + d.size)), .string d] W fun e W' => e = .returned (.string (T.extract p (p + d.size))) ∧ Below W.heap.size W W' from by
            have h := refAnd (T.extract p (p + d.size)) d W (by simp; omega) (by unfold maxLen; omega)
            rwa [e5] at h))
          clear e4 e5
          have i1 : (p : Int) ≤ (f.b0.size : Int) := by omega
          have i2 : (d.size : Int) ≤ (f.b0.size : Int) - (p : Int) := by omega
          have i3 : (p : Int) + (d.size : Int) ≤ (f.b0.size : Int) := by omega
          have i4 : (0 : Int) ≤ (p : Int) + (d.size : Int) := by omega
          have i5 : ((p : Int) + (d.size : Int)).toNat = p + d.size := by omega
          have i6 : (p : Int) ≤ (p : Int) + (d.size : Int) := by omega
          have i7 : p ≤ f.b0.size := by omega
          have i8 : p ≤ p + d.size := by omega
          go_enter Try.func3, Try.ntmps3
          have hB : Below W.heap.size W (W.alloc (.cells #[.string f.b0, .string f.b1, .int .i64 f.e0, .int .i64 f.e1, .int .i64 f.lim] 25)) := (Below.refl _ _).alloc (Nat.le_refl _) _
          have xf := FlBox.new 25 W f
          go_wp2_with fail
          refine (TB.out _).mono ?_
          rintro e W1 ⟨rfl, k1⟩
          replace hB := below_seq hB k1
          replace xf := xf.seq k1
          clear k1
          obtain ⟨xf0, xf1, xf2, xf3, xf4⟩ := xf.cells
          go_wp2_with fail
          refine (flShown _).mono ?_
          rintro e W2 ⟨rfl, k2⟩
          replace hB := below_seq hB k2
          replace xf := xf.seq k2
          clear k2
          clear xf0 xf1 xf2 xf3 xf4
          obtain ⟨xf0, xf1, xf2, xf3, xf4⟩ := xf.cells
          go_wp2_with fail
          refine (TP.out _).mono ?_
          rintro e W3 ⟨rfl, k3⟩
          replace hB := below_seq hB k3
          replace xf := xf.seq k3
          clear k3
          clear xf0 xf1 xf2 xf3 xf4
          obtain ⟨xf0, xf1, xf2, xf3, xf4⟩ := xf.cells
          have xa := FlBox.new 25 W3 (⟨T, f.b1, f.e0, f.e1, f.lim⟩ : Fl)
          replace xf := xf.alloc (.cells #[.string T, .string f.b1, .int .i64 f.e0, .int .i64 f.e1, .int .i64 f.lim] 25)
          replace hB := hB.alloc hB.size (.cells #[.string T, .string f.b1, .int .i64 f.e0, .int .i64 f.e1, .int .i64 f.lim] 25)
          clear xf0 xf1 xf2 xf3 xf4
          obtain ⟨xf0, xf1, xf2, xf3, xf4⟩ := xf.cells
          obtain ⟨xa0, xa1, xa2, xa3, xa4⟩ := xa.cells
          go_wp2_with fail
          generalize W3.alloc (.cells #[.string T, .string f.b1, .int .i64 f.e0, .int .i64 f.e1, .int .i64 f.lim] 25) = V at *
          simp only [List.append_eq, List.cons_append, List.nil_append]
          have hn : IntKind.i64.wrap 1 = 1 := by decide
          go_region_held3 (fun w' => Below W.heap.size W w' ∧ FlBox 25 w' W.heap.size f ∧ FlBox 25 w' W3.heap.size (⟨T, f.b1, f.e0, f.e1, f.lim⟩ : Fl) ∧ (w'.cell? ⟨W.heap.size, 0, none⟩ = some (.string f.b0) ∧ w'.cell? ⟨W.heap.size, 1, none⟩ = some (.string f.b1) ∧ w'.cell? ⟨W.heap.size, 2, none⟩ = some (.int .i64 f.e0) ∧ w'.cell? ⟨W.heap.size, 3, none⟩ = some (.int .i64 f.e1) ∧ w'.cell? ⟨W.heap.size, 4, none⟩ = some (.int .i64 f.lim)) ∧ (w'.cell? ⟨W3.heap.size, 0, none⟩ = some (.string T) ∧ w'.cell? ⟨W3.heap.size, 1, none⟩ = some (.string f.b1) ∧ w'.cell? ⟨W3.heap.size, 2, none⟩ = some (.int .i64 f.e0) ∧ w'.cell? ⟨W3.heap.size, 3, none⟩ = some (.int .i64 f.e1) ∧ w'.cell? ⟨W3.heap.size, 4, none⟩ = some (.int .i64 f.lim)))
            ((first | (exact fsAll hB.drew xf.drew xa.drew) | assumption | exact fsNext (by assumption) (by assumption)))
            (first | (go_at_call 18; refine (TBT.out _).mono ?_; rintro e w' ⟨rfl, rfl⟩) | (go_at_call 19; refine (TAN.out _).mono ?_; rintro e w' ⟨rfl, hh⟩))
          all_goals
            go_wp2
            go_ret
            exact ⟨rfl, fsB (by assumption)⟩
        · have hbs : f.bank 1 = f.b1 := if_neg (by decide)
          obtain ⟨hq0, hq1⟩ := prog_bounds hp
          rw [hbs] at hq1
          obtain ⟨p, rfl⟩ := Int.eq_ofNat_of_zero_le hq0
          rw [Int.toNat_natCast] at hq1
          have hF : progF f 1 (p : Int) d = ⟨f.b0, splice f.b1 p d, f.e0, f.e1, f.lim⟩ := by
            rw [show progF f 1 (p : Int) d = f.setBank 1 (splice (f.bank 1) (p : Int).toNat d) from if_pos hp, hbs, Int.toNat_natCast]
            exact if_neg (by decide)
          have e1 := splice_size f.b1 p d hq1
          have e2 := splice_low f.b1 p d hq1
          have e3 := splice_high f.b1 p d hq1
          have e4 := splice_bits f.b1 p d hq1
          have e5 := splice_and f.b1 p d hq1
          have TP := Lib.hid (fun (W : World) => (show Calls Try.prog 17 #[.agg #[.string f.b0, .string f.b1, .int .i64 f.e0, .int .i64 f.e1, .int .i64 f.lim], .int .i64 1, .int .i64 (p : Int), .string d] W fun e W' => e = .returned (.tuple #[.agg #[.string f.b0, .string (splice f.b1 p d), .int .i64 f.e0, .int .i64 f.e1, .int .i64 f.lim], .int .i64 0]) ∧ Below W.heap.size W W' from by
            have h := flProgram f 1 (p : Int) d W hf hd
            rwa [hF, hp] at h))
          clear hF hp hbs hq0
          generalize splice f.b1 p d = T at *
          have TBT := Lib.hid (fun (W : World) => (show Calls Try.prog 18 #[.string T, .string f.b1] W fun e W' => e = .returned (.int .i64 0) ∧ W' = W from by
            have h := refBits T f.b1 W (by omega) (by unfold maxLen; omega)
            rwa [e4] at h))
          have TAN := Lib.hid (fun (W : World) => (show Calls Try.prog 19 #[.string (T.extract p (p + d.size)), .string d] W fun e W' => e = .returned (.string (T.extract p (p + d.size))) ∧ Below W.heap.size W W' from by
            have h := refAnd (T.extract p (p + d.size)) d W (by simp; omega) (by unfold maxLen; omega)
            rwa [e5] at h))
          clear e4 e5
          have i1 : (p : Int) ≤ (f.b1.size : Int) := by omega
          have i2 : (d.size : Int) ≤ (f.b1.size : Int) - (p : Int) := by omega
          have i3 : (p : Int) + (d.size : Int) ≤ (f.b1.size : Int) := by omega
          have i4 : (0 : Int) ≤ (p : Int) + (d.size : Int) := by omega
          have i5 : ((p : Int) + (d.size : Int)).toNat = p + d.size := by omega
          have i6 : (p : Int) ≤ (p : Int) + (d.size : Int) := by omega
          have i7 : p ≤ f.b1.size := by omega
          have i8 : p ≤ p + d.size := by omega
          go_enter Try.func3, Try.ntmps3
          have hB : Below W.heap.size W (W.alloc (.cells #[.string f.b0, .string f.b1, .int .i64 f.e0, .int .i64 f.e1, .int .i64 f.lim] 25)) := (Below.refl _ _).alloc (Nat.le_refl _) _
          have xf := FlBox.new 25 W f
          go_wp2_with fail
          refine (TB.out _).mono ?_
          rintro e W1 ⟨rfl, k1⟩
          replace hB := below_seq hB k1
          replace xf := xf.seq k1
          clear k1
          obtain ⟨xf0, xf1, xf2, xf3, xf4⟩ := xf.cells
          go_wp2_with fail
          refine (flShown _).mono ?_
          rintro e W2 ⟨rfl, k2⟩
          replace hB := below_seq hB k2
          replace xf := xf.seq k2
          clear k2
          clear xf0 xf1 xf2 xf3 xf4
          obtain ⟨xf0, xf1, xf2, xf3, xf4⟩ := xf.cells
          go_wp2_with fail
          refine (TP.out _).mono ?_
          rintro e W3 ⟨rfl, k3⟩
          replace hB := below_seq hB k3
          replace xf := xf.seq k3
          clear k3
          clear xf0 xf1 xf2 xf3 xf4
          obtain ⟨xf0, xf1, xf2, xf3, xf4⟩ := xf.cells
          have xa := FlBox.new 25 W3 (⟨f.b0, T, f.e0, f.e1, f.lim⟩ : Fl)
          replace xf := xf.alloc (.cells #[.string f.b0, .string T, .int .i64 f.e0, .int .i64 f.e1, .int .i64 f.lim] 25)
          replace hB := hB.alloc hB.size (.cells #[.string f.b0, .string T, .int .i64 f.e0, .int .i64 f.e1, .int .i64 f.lim] 25)
          clear xf0 xf1 xf2 xf3 xf4
          obtain ⟨xf0, xf1, xf2, xf3, xf4⟩ := xf.cells
          obtain ⟨xa0, xa1, xa2, xa3, xa4⟩ := xa.cells
          go_wp2_with fail
          generalize W3.alloc (.cells #[.string f.b0, .string T, .int .i64 f.e0, .int .i64 f.e1, .int .i64 f.lim] 25) = V at *
          simp only [List.append_eq, List.cons_append, List.nil_append]
          have hn : IntKind.i64.wrap 0 = 0 := by decide
          go_region_held3 (fun w' => Below W.heap.size W w' ∧ FlBox 25 w' W.heap.size f ∧ FlBox 25 w' W3.heap.size (⟨f.b0, T, f.e0, f.e1, f.lim⟩ : Fl) ∧ (w'.cell? ⟨W.heap.size, 0, none⟩ = some (.string f.b0) ∧ w'.cell? ⟨W.heap.size, 1, none⟩ = some (.string f.b1) ∧ w'.cell? ⟨W.heap.size, 2, none⟩ = some (.int .i64 f.e0) ∧ w'.cell? ⟨W.heap.size, 3, none⟩ = some (.int .i64 f.e1) ∧ w'.cell? ⟨W.heap.size, 4, none⟩ = some (.int .i64 f.lim)) ∧ (w'.cell? ⟨W3.heap.size, 0, none⟩ = some (.string f.b0) ∧ w'.cell? ⟨W3.heap.size, 1, none⟩ = some (.string T) ∧ w'.cell? ⟨W3.heap.size, 2, none⟩ = some (.int .i64 f.e0) ∧ w'.cell? ⟨W3.heap.size, 3, none⟩ = some (.int .i64 f.e1) ∧ w'.cell? ⟨W3.heap.size, 4, none⟩ = some (.int .i64 f.lim)))
            ((first | (exact fsAll hB.drew xf.drew xa.drew) | assumption | exact fsNext (by assumption) (by assumption)))
            (first | (go_at_call 18; refine (TBT.out _).mono ?_; rintro e w' ⟨rfl, rfl⟩) | (go_at_call 19; refine (TAN.out _).mono ?_; rintro e w' ⟨rfl, hh⟩))
          all_goals
            go_wp2
            go_ret
            exact ⟨rfl, fsB (by assumption)⟩
      · have hpf := progF_none hp
        have hE : ((progErr f bank q d) != 0) = true := bne_iff_ne.2 hp
        have T20 : ∀ W, Calls Try.prog 17 #[.agg #[.string f.b0, .string f.b1, .int .i64 f.e0, .int .i64 f.e1, .int .i64 f.lim], .int .i64 bank, .int .i64 q, .string d] W fun e W' => e = .returned (.tuple #[.agg #[.string f.b0, .string f.b1, .int .i64 f.e0, .int .i64 f.e1, .int .i64 f.lim], .int .i64 (progErr f bank q d)]) ∧ Below W.heap.size W W' := fun W => by
          have h := flProgram f bank q d W hf hd; rwa [hpf] at h
        have T2 := Lib.hid T20
        clear T20
        clear hp hpf
        generalize progErr f bank q d = E at *
        go_enter Try.func3, Try.ntmps3
        have hB : Below W.heap.size W (W.alloc (.cells #[.string f.b0, .string f.b1, .int .i64 f.e0, .int .i64 f.e1, .int .i64 f.lim] 25)) := (Below.refl _ _).alloc (Nat.le_refl _) _
        have xf := FlBox.new 25 W f
        go_wp2_with fail
        refine (TB.out _).mono ?_
        rintro e W1 ⟨rfl, k1⟩
        replace hB := below_seq hB k1
        replace xf := xf.seq k1
        clear k1
        obtain ⟨xf0, xf1, xf2, xf3, xf4⟩ := xf.cells
        go_wp2_with fail
        refine (flShown _).mono ?_
        rintro e W2 ⟨rfl, k2⟩
        replace hB := below_seq hB k2
        replace xf := xf.seq k2
        clear k2
        clear xf0 xf1 xf2 xf3 xf4
        obtain ⟨xf0, xf1, xf2, xf3, xf4⟩ := xf.cells
        go_wp2_with fail
        refine (T2.out _).mono ?_
        rintro e W3 ⟨rfl, k3⟩
        replace hB := below_seq hB k3
        replace xf := xf.seq k3
        clear k3
        clear xf0 xf1 xf2 xf3 xf4
        obtain ⟨xf0, xf1, xf2, xf3, xf4⟩ := xf.cells
        have xa := FlBox.new 25 W3 f
        replace xf := xf.alloc (.cells #[.string f.b0, .string f.b1, .int .i64 f.e0, .int .i64 f.e1, .int .i64 f.lim] 25)
        replace hB := hB.alloc hB.size (.cells #[.string f.b0, .string f.b1, .int .i64 f.e0, .int .i64 f.e1, .int .i64 f.lim] 25)
        clear xf0 xf1 xf2 xf3 xf4
        obtain ⟨xf0, xf1, xf2, xf3, xf4⟩ := xf.cells
        obtain ⟨xa0, xa1, xa2, xa3, xa4⟩ := xa.cells
        go_wp2
        go_ret
        exact ⟨rfl, hB⟩

theorem own : ownKnob Try.prog.godebug = none := by kernel_rfl

set_option maxRecDepth 100000 in
theorem lifted (os : Os) (started : os.Started) (H : Type) (enc : TypeId × Value → H) :
    ReturnsInHanded {} Try.checked os 3 .any (Rows.flashKeepsSpec.pre6 enc Try.prog Try.f3 Rows.flashKeepsRow.domain false) (Rows.flashKeepsSpec.post enc Try.prog Try.f3 false true false false) := by
  refine returnsInHanded_of_change (C := Try.checked) own started (by kernel_rfl) Try.func3
    (ChangeSpec.witness6 (enc := enc) (C := Try.checked) false ⟨#[], #[.agg #[.string ⟨#[]⟩, .string ⟨#[]⟩, .int .i64 0, .int .i64 0, .int .i64 0], .int .i64 0, .int .i64 0, .string ⟨#[]⟩], []⟩ 8 (by kernel_rfl) (by kernel_rfl) (by kernel_rfl) (by kernel_rfl)) ?_
  intro W base args ds gs before hval hW _ _
  have hW' := hW
  obtain ⟨p, q, hA0, hV, rfl, hfz, hnd⟩ := hW
  have hA : DataW.TrodAll enc Try.prog W 0 (fun _ => true) true Try.f3.params.toList args.toList ds p := hA0
  rw [Try.params3] at hA hval
  obtain ⟨v0, vs0, d0, ds0, p0, q0, hargs, rfl, rfl, h0, r0⟩ := trodAll_cons hA
  obtain ⟨v1, vs1, d1, ds1, p1, q1, rfl, rfl, rfl, h1, r1⟩ := trodAll_cons r0
  obtain ⟨v2, vs2, d2, ds2, p2, q2, rfl, rfl, rfl, h2, r2⟩ := trodAll_cons r1
  obtain ⟨v3, vs3, d3, ds3, p3, q3, rfl, rfl, rfl, h3, r3⟩ := trodAll_cons r2
  obtain ⟨rfl, rfl, rfl⟩ := trodAll_nil r3
  obtain rfl : args = #[v0, v1, v2, v3] := by cases args; simp_all
  obtain ⟨rfl, rfl⟩ := trodVars_none hV
  have k0 := h0
  obtain ⟨s0, rfl, hs0⟩ := open_fl (hval 0 25 v0 rfl rfl) h0
  obtain ⟨a1, rfl, rfl, rfl, w1⟩ := open_int Try.underlying3 (hval 1 3 v1 rfl rfl) h1
  obtain ⟨a2, rfl, rfl, rfl, w2⟩ := open_int Try.underlying3 (hval 2 3 v2 rfl rfl) h2
  obtain ⟨s3, rfl, rfl, rfl, hs3⟩ := open_string Try.underlying9 (hval 3 9 v3 rfl rfl) h3
  clear hA0
  simp only [List.append_nil] at hW'
  refine (walk s0 a1 a2 s3 W hs0 (int_i64 w1) (int_i64 w2) hs3).mono fun e W' ⟨he, hB⟩ => ?_
  subst he
  exact ⟨_, rfl, ⟨_, _, _, [], _, [], hW', trodAll_cons_mk (shut_bool Try.underlying4 _) trodAll_mk0, (trodAll_cons_mk (Below.trod Try.laidOut (by kernel_rfl) (of_decide_eq_true (by kernel_rfl)) k0 hB (fun x hx => by simpa using hW'.lt x (by simp [hx]))) (trodAll_cons_mk (shut_int Try.underlying3 w1) (trodAll_cons_mk (shut_int Try.underlying3 w2) (trodAll_cons_mk (shut_string Try.underlying9 hs3) trodAll_mk0)))), rfl, hB.frame _, fun h => by cases h⟩⟩

theorem holds : Rows.FlashKeepsSaid :=
  OpenClaim.holds_of_wide 3 Try.f3 rfl rfl rfl rfl rfl rfl rfl ⟨rfl, rfl, rfl, rfl, rfl⟩ rfl rfl rfl rfl rfl (by kernel_rfl) Try.func3 (by kernel_rfl)
    (of_decide_eq_true (by kernel_rfl)) (by unfold Func.isWrapper; first | (rw [if_pos (by decide +kernel)]; kernel_rfl) | (rw [if_neg (by decide +kernel)]; exact ⟨rfl, rfl⟩))
    (fun os started H enc _ => lifted os started H enc)
end Go.Proofs.Ytoemjfjmpmngeab.FlashKeeps

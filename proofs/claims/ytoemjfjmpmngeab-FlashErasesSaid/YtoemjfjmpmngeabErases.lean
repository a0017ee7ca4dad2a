/- A bank that was erased is blank, and can be erased as often as it may (FlashErases); no condition. -/
import Derived.Test.YtoemjfjmpmngeabFlashEq
import Derived.Test.YtoemjfjmpmngeabFlashOwn
import Derived.Test.YtoemjfjmpmngeabFlashPlain
import Derived.Test.YtoemjfjmpmngeabFlashOpen
import Derived.ProofKit
import Derived.OpenShut
import Derived.ChangeMaps5
import Derived.Test.YtoemjfjmpmngeabInts
namespace Go.Proofs.Ytoemjfjmpmngeab.FlashErases
open Go.ChangeShapes Go.WideShapes Go.ChangeAt Go.RowKit Go.ChangeMaps
set_option linter.unusedVariables false
attribute [local go_sem] eqS2 eqI2 w64_u8
theorem blankB_blankT (n : Nat) : blankB (blankT n) = true := by
  unfold blankB blankT; rw [bl_bs]; simp
theorem erase_step0 {B : ByteArray} {a c : Int} (hB : blankT B.size = B) (h : a < c) : eraseF ⟨B, B, a, 0, c⟩ 0 = ⟨B, B, a + 1, 0, c⟩ ∧ eraseErr ⟨B, B, a, 0, c⟩ 0 = 0 := by
  have e : eraseErr ⟨B, B, a, 0, c⟩ 0 = 0 := by
    unfold eraseErr Fl.erases; rw [if_neg (by decide), if_neg (by rw [if_pos rfl]; show ¬ c ≤ a; omega)]
  refine ⟨?_, e⟩
  unfold eraseF
  rw [if_pos e, if_pos rfl]
  show (⟨blankT B.size, B, a + 1, 0, c⟩ : Fl) = _
  rw [hB]
theorem erase_step1 {B : ByteArray} {a c : Int} (hB : blankT B.size = B) (h : a < c) : eraseF ⟨B, B, 0, a, c⟩ 1 = ⟨B, B, 0, a + 1, c⟩ ∧ eraseErr ⟨B, B, 0, a, c⟩ 1 = 0 := by
  have e : eraseErr ⟨B, B, 0, a, c⟩ 1 = 0 := by
    unfold eraseErr Fl.erases; rw [if_neg (by decide), if_neg (by rw [if_neg (by decide)]; show ¬ c ≤ a; omega)]
  refine ⟨?_, e⟩
  unfold eraseF
  rw [if_pos e, if_neg (by decide)]
  show (⟨B, blankT B.size, 0, a + 1, c⟩ : Fl) = _
  rw [hB]
theorem erase_worn0 (B : ByteArray) (c : Int) : eraseF ⟨B, B, c, 0, c⟩ 0 = ⟨B, B, c, 0, c⟩ ∧ eraseErr ⟨B, B, c, 0, c⟩ 0 = 4 := by
  have e : eraseErr ⟨B, B, c, 0, c⟩ 0 = 4 := by
    unfold eraseErr Fl.erases; rw [if_neg (by decide), if_pos (by rw [if_pos rfl]; exact Int.le_refl _)]
  exact ⟨by unfold eraseF; rw [if_neg (by rw [e]; decide)], e⟩
theorem erase_worn1 (B : ByteArray) (c : Int) : eraseF ⟨B, B, 0, c, c⟩ 1 = ⟨B, B, 0, c, c⟩ ∧ eraseErr ⟨B, B, 0, c, c⟩ 1 = 4 := by
  have e : eraseErr ⟨B, B, 0, c, c⟩ 1 = 4 := by
    unfold eraseErr Fl.erases; rw [if_neg (by decide), if_pos (by rw [if_neg (by decide)]; exact Int.le_refl _)]
  exact ⟨by unfold eraseF; rw [if_neg (by rw [e]; decide)], e⟩
theorem erase_arg {f : Fl} {bank : Int} (h : bank ≠ 0) (k : bank ≠ 1) : eraseF f bank = f ∧ eraseErr f bank = 1 := by
  have e : eraseErr f bank = 1 := if_pos ⟨h, k⟩
  exact ⟨by unfold eraseF; rw [if_neg (by rw [e]; decide)], e⟩
theorem erase_ok {B : ByteArray} {m : Nat} (h : B.size = m) {a b c : Int} (ha : -9223372036854775808 ≤ a ∧ a ≤ 9223372036854775807) (hb : -9223372036854775808 ≤ b ∧ b ≤ 9223372036854775807) (hc : -9223372036854775808 ≤ c ∧ c ≤ 9223372036854775807) (hm : m ≤ 255 := by omega) : (⟨B, B, a, b, c⟩ : Fl).fit :=
  ⟨⟨by show B.size ≤ _; unfold maxLen; omega, by show B.size ≤ _; unfold maxLen; omega, ha, hb, hc⟩, by show B.size ≤ _; omega, by show B.size ≤ _; omega⟩

set_option maxRecDepth 100000 in
set_option maxHeartbeats 4000000 in
theorem walk (sz : UInt8) (lim : UInt8) (bank : Int) (W : World) (hbank : -9223372036854775808 ≤ bank ∧ bank ≤ 9223372036854775807) :
    Calls Try.prog 4 #[.int .u8 (sz.toNat : Int), .int .u8 (lim.toNat : Int), .int .i64 bank] W fun e W' => e = .returned (.bool true) ∧ Below W.heap.size W W' := by
  have hl0 := lim.toNat_lt
  have hs0 := sz.toNat_lt
  have hlp : (0 : Int) ≤ (lim.toNat : Int) := Int.natCast_nonneg _
  obtain ⟨n, hn⟩ : ∃ n : Nat, (lim.toNat : Int) % 20 = (n : Int) := ⟨lim.toNat % 20, by omega⟩
  have hn20 : n < 20 := by omega
  have hBz := blankT_size sz.toNat
  have hBl := blankB_blankT sz.toNat
  have hBb : blankT (blankT sz.toNat).size = blankT sz.toNat := by rw [hBz]
  have TN := Lib.hid (fun (W : World) => (show Calls Try.prog 20 #[.int .i64 (sz.toNat : Int), .int .i64 (n : Int)] W fun e W' => e = .returned (.agg #[.string (blankT sz.toNat), .string (blankT sz.toNat), .int .i64 0, .int .i64 0, .int .i64 (n : Int)]) ∧ Below W.heap.size W W' from by
    have h := flNew (sz.toNat : Int) (n : Int) W
    rwa [show newF (sz.toNat : Int) (n : Int) = ⟨blankT sz.toNat, blankT sz.toNat, 0, 0, (n : Int)⟩ from if_neg (by omega)] at h))
  generalize blankT sz.toNat = B at *
  have hBz2 : B.size ≤ 255 := by omega
  have hB : Below W.heap.size W W := Below.refl _ _
  by_cases h0 : bank = 0
  · subst h0
    have TE := Lib.hid (fun (W : World) (k : Nat) (hk : k < n) => (show Calls Try.prog 21 #[.agg #[.string B, .string B, .int .i64 (k : Int), .int .i64 0, .int .i64 (n : Int)], .int .i64 0] W fun e W' => e = .returned (.tuple #[.agg #[.string B, .string B, .int .i64 ((k : Int) + 1), .int .i64 0, .int .i64 (n : Int)], .int .i64 0]) ∧ Below W.heap.size W W' from by
      have h := flErase (⟨B, B, (k : Int), 0, (n : Int)⟩ : Fl) 0 W (erase_ok hBz (by omega) (by omega) (by omega))
      rwa [(erase_step0 hBb (show (k : Int) < (n : Int) from by omega)).1, (erase_step0 hBb (show (k : Int) < (n : Int) from by omega)).2] at h))
    have TW := Lib.hid (fun (W : World) => (show Calls Try.prog 21 #[.agg #[.string B, .string B, .int .i64 (n : Int), .int .i64 0, .int .i64 (n : Int)], .int .i64 0] W fun e W' => e = .returned (.tuple #[.agg #[.string B, .string B, .int .i64 (n : Int), .int .i64 0, .int .i64 (n : Int)], .int .i64 4]) ∧ Below W.heap.size W W' from by
      have h := flErase (⟨B, B, (n : Int), 0, (n : Int)⟩ : Fl) 0 W (erase_ok hBz (by omega) (by omega) (by omega))
      rwa [(erase_worn0 B (n : Int)).1, (erase_worn0 B (n : Int)).2] at h))
    have TL := Lib.hid (fun (W : World) => (show Calls Try.prog 22 #[.string B] W fun e W' => e = .returned (.bool true) ∧ Below W.heap.size W W' from by
      have h := flBlank B W (by unfold maxLen; omega)
      rwa [hBl] at h))
    clear hBb hBl
    go_enter Try.func4, Try.ntmps4
    go_wp2_with fail
    refine (TN.out _).mono ?_
    rintro e W1 ⟨rfl, k1⟩
    replace hB := below_seq hB k1
    clear k1
    have xf := FlBox.new 25 W1 (⟨B, B, 0, 0, (n : Int)⟩ : Fl)
    have hW1 := hB.size
    replace hB := hB.alloc hB.size (.cells #[.string B, .string B, .int .i64 0, .int .i64 0, .int .i64 (n : Int)] 25)
    go_wp2
    generalize W1.alloc (.cells #[.string B, .string B, .int .i64 0, .int .i64 0, .int .i64 (n : Int)] 25) = W0 at hB xf ⊢
    generalize W1.heap.size = Bf at hW1 xf ⊢
    go_loopw [9] (fun i wr => ∃ k : Nat, k ≤ n ∧ i = .int .i64 k ∧ FlBox 25 wr Bf (⟨B, B, (k : Int), 0, (n : Int)⟩ : Fl) ∧ Below W.heap.size W wr)
      (fun i _ => n - (intOf i).toNat)
    case atStart => exact ⟨0, Nat.zero_le _, rfl, xf, hB⟩
    case round =>
      clear xf hB
      obtain ⟨k, hk, rfl, xf, hB⟩ := hrel
      by_cases hlt : k < n
      · obtain ⟨xf0, xf1, xf2, xf3, xf4⟩ := xf.cells
        go_wp2_with fail
        refine (TE.out _ k hlt).mono ?_
        rintro e W3 ⟨rfl, k3⟩
        replace hB := below_seq hB k3
        replace xf := xf.seq k3
        clear k3
        clear xf0 xf1 xf2 xf3 xf4
        obtain ⟨xf0, xf1, xf2, xf3, xf4⟩ := xf.cells
        have xa := FlBox.new 25 W3 (⟨B, B, ((k : Int) + 1), 0, (n : Int)⟩ : Fl)
        replace xf := xf.alloc (.cells #[.string B, .string B, .int .i64 ((k : Int) + 1), .int .i64 0, .int .i64 (n : Int)] 25)
        replace hB := hB.alloc hB.size (.cells #[.string B, .string B, .int .i64 ((k : Int) + 1), .int .i64 0, .int .i64 (n : Int)] 25)
        clear xf0 xf1 xf2 xf3 xf4
        obtain ⟨xf0, xf1, xf2, xf3, xf4⟩ := xf.cells
        obtain ⟨xa0, xa1, xa2, xa3, xa4⟩ := xa.cells
        go_wp2_with fail
        refine (TL.out _).mono ?_
        rintro e W4 ⟨rfl, k4⟩
        replace hB := below_seq hB k4
        replace xf := xf.seq k4
        replace xa := xa.seq k4
        clear k4
        clear xf0 xf1 xf2 xf3 xf4
        obtain ⟨xf0, xf1, xf2, xf3, xf4⟩ := xf.cells
        clear xa0 xa1 xa2 xa3 xa4
        obtain ⟨xa0, xa1, xa2, xa3, xa4⟩ := xa.cells
        obtain ⟨f0, f1, f2, f3, f4⟩ := xf.frozen
        go_wp2
        go_roundw
        case rel => exact ⟨k + 1, by omega, by go_num, xf.store (⟨B, B, ((k : Int) + 1), 0, (n : Int)⟩ : Fl), ((((hB.setCell hW1 _).setCell hW1 _).setCell hW1 _).setCell hW1 _).setCell hW1 _⟩
        case measure => simp [intOf]; omega
      · obtain rfl : k = n := by omega
        obtain ⟨xf0, xf1, xf2, xf3, xf4⟩ := xf.cells
        go_wp2_with fail
        refine (TW.out _).mono ?_
        rintro e W11 ⟨rfl, k11⟩
        replace hB := below_seq hB k11
        replace xf := xf.seq k11
        clear k11
        clear xf0 xf1 xf2 xf3 xf4
        obtain ⟨xf0, xf1, xf2, xf3, xf4⟩ := xf.cells
        have xw := FlBox.new 25 W11 (⟨B, B, (k : Int), 0, (k : Int)⟩ : Fl)
        replace xf := xf.alloc (.cells #[.string B, .string B, .int .i64 (k : Int), .int .i64 0, .int .i64 (k : Int)] 25)
        replace hB := hB.alloc hB.size (.cells #[.string B, .string B, .int .i64 (k : Int), .int .i64 0, .int .i64 (k : Int)] 25)
        clear xf0 xf1 xf2 xf3 xf4
        obtain ⟨xf0, xf1, xf2, xf3, xf4⟩ := xf.cells
        obtain ⟨xw0, xw1, xw2, xw3, xw4⟩ := xw.cells
        go_wp2_with fail
        refine (flShown _).mono ?_
        rintro e W12 ⟨rfl, k12⟩
        replace hB := below_seq hB k12
        replace xf := xf.seq k12
        replace xw := xw.seq k12
        clear k12
        clear xf0 xf1 xf2 xf3 xf4
        obtain ⟨xf0, xf1, xf2, xf3, xf4⟩ := xf.cells
        clear xw0 xw1 xw2 xw3 xw4
        obtain ⟨xw0, xw1, xw2, xw3, xw4⟩ := xw.cells
        go_wp2
        go_ret
        exact ⟨rfl, hB⟩
  · by_cases h1 : bank = 1
    · subst h1
      have TE := Lib.hid (fun (W : World) (k : Nat) (hk : k < n) => (show Calls Try.prog 21 #[.agg #[.string B, .string B, .int .i64 0, .int .i64 (k : Int), .int .i64 (n : Int)], .int .i64 1] W fun e W' => e = .returned (.tuple #[.agg #[.string B, .string B, .int .i64 0, .int .i64 ((k : Int) + 1), .int .i64 (n : Int)], .int .i64 0]) ∧ Below W.heap.size W W' from by
        have h := flErase (⟨B, B, 0, (k : Int), (n : Int)⟩ : Fl) 1 W (erase_ok hBz (by omega) (by omega) (by omega))
        rwa [(erase_step1 hBb (show (k : Int) < (n : Int) from by omega)).1, (erase_step1 hBb (show (k : Int) < (n : Int) from by omega)).2] at h))
      have TW := Lib.hid (fun (W : World) => (show Calls Try.prog 21 #[.agg #[.string B, .string B, .int .i64 0, .int .i64 (n : Int), .int .i64 (n : Int)], .int .i64 1] W fun e W' => e = .returned (.tuple #[.agg #[.string B, .string B, .int .i64 0, .int .i64 (n : Int), .int .i64 (n : Int)], .int .i64 4]) ∧ Below W.heap.size W W' from by
        have h := flErase (⟨B, B, 0, (n : Int), (n : Int)⟩ : Fl) 1 W (erase_ok hBz (by omega) (by omega) (by omega))
        rwa [(erase_worn1 B (n : Int)).1, (erase_worn1 B (n : Int)).2] at h))
      have TL := Lib.hid (fun (W : World) => (show Calls Try.prog 22 #[.string B] W fun e W' => e = .returned (.bool true) ∧ Below W.heap.size W W' from by
        have h := flBlank B W (by unfold maxLen; omega)
        rwa [hBl] at h))
      clear hBb hBl
      go_enter Try.func4, Try.ntmps4
      go_wp2_with fail
      refine (TN.out _).mono ?_
      rintro e W1 ⟨rfl, k1⟩
      replace hB := below_seq hB k1
      clear k1
      have xf := FlBox.new 25 W1 (⟨B, B, 0, 0, (n : Int)⟩ : Fl)
      have hW1 := hB.size
      replace hB := hB.alloc hB.size (.cells #[.string B, .string B, .int .i64 0, .int .i64 0, .int .i64 (n : Int)] 25)
      go_wp2
      generalize W1.alloc (.cells #[.string B, .string B, .int .i64 0, .int .i64 0, .int .i64 (n : Int)] 25) = W0 at hB xf ⊢
      generalize W1.heap.size = Bf at hW1 xf ⊢
      go_loopw [9] (fun i wr => ∃ k : Nat, k ≤ n ∧ i = .int .i64 k ∧ FlBox 25 wr Bf (⟨B, B, 0, (k : Int), (n : Int)⟩ : Fl) ∧ Below W.heap.size W wr)
        (fun i _ => n - (intOf i).toNat)
      case atStart => exact ⟨0, Nat.zero_le _, rfl, xf, hB⟩
      case round =>
        clear xf hB
        obtain ⟨k, hk, rfl, xf, hB⟩ := hrel
        by_cases hlt : k < n
        · obtain ⟨xf0, xf1, xf2, xf3, xf4⟩ := xf.cells
          go_wp2_with fail
          refine (TE.out _ k hlt).mono ?_
          rintro e W3 ⟨rfl, k3⟩
          replace hB := below_seq hB k3
          replace xf := xf.seq k3
          clear k3
          clear xf0 xf1 xf2 xf3 xf4
          obtain ⟨xf0, xf1, xf2, xf3, xf4⟩ := xf.cells
          have xa := FlBox.new 25 W3 (⟨B, B, 0, ((k : Int) + 1), (n : Int)⟩ : Fl)
          replace xf := xf.alloc (.cells #[.string B, .string B, .int .i64 0, .int .i64 ((k : Int) + 1), .int .i64 (n : Int)] 25)
          replace hB := hB.alloc hB.size (.cells #[.string B, .string B, .int .i64 0, .int .i64 ((k : Int) + 1), .int .i64 (n : Int)] 25)
          clear xf0 xf1 xf2 xf3 xf4
          obtain ⟨xf0, xf1, xf2, xf3, xf4⟩ := xf.cells
          obtain ⟨xa0, xa1, xa2, xa3, xa4⟩ := xa.cells
          go_wp2_with fail
          refine (TL.out _).mono ?_
          rintro e W4 ⟨rfl, k4⟩
          replace hB := below_seq hB k4
          replace xf := xf.seq k4
          replace xa := xa.seq k4
          clear k4
          clear xf0 xf1 xf2 xf3 xf4
          obtain ⟨xf0, xf1, xf2, xf3, xf4⟩ := xf.cells
          clear xa0 xa1 xa2 xa3 xa4
          obtain ⟨xa0, xa1, xa2, xa3, xa4⟩ := xa.cells
          obtain ⟨f0, f1, f2, f3, f4⟩ := xf.frozen
          go_wp2
          go_roundw
          case rel => exact ⟨k + 1, by omega, by go_num, xf.store (⟨B, B, 0, ((k : Int) + 1), (n : Int)⟩ : Fl), ((((hB.setCell hW1 _).setCell hW1 _).setCell hW1 _).setCell hW1 _).setCell hW1 _⟩
          case measure => simp [intOf]; omega
        · obtain rfl : k = n := by omega
          obtain ⟨xf0, xf1, xf2, xf3, xf4⟩ := xf.cells
          go_wp2_with fail
          refine (TW.out _).mono ?_
          rintro e W11 ⟨rfl, k11⟩
          replace hB := below_seq hB k11
          replace xf := xf.seq k11
          clear k11
          clear xf0 xf1 xf2 xf3 xf4
          obtain ⟨xf0, xf1, xf2, xf3, xf4⟩ := xf.cells
          have xw := FlBox.new 25 W11 (⟨B, B, 0, (k : Int), (k : Int)⟩ : Fl)
          replace xf := xf.alloc (.cells #[.string B, .string B, .int .i64 0, .int .i64 (k : Int), .int .i64 (k : Int)] 25)
          replace hB := hB.alloc hB.size (.cells #[.string B, .string B, .int .i64 0, .int .i64 (k : Int), .int .i64 (k : Int)] 25)
          clear xf0 xf1 xf2 xf3 xf4
          obtain ⟨xf0, xf1, xf2, xf3, xf4⟩ := xf.cells
          obtain ⟨xw0, xw1, xw2, xw3, xw4⟩ := xw.cells
          go_wp2_with fail
          refine (flShown _).mono ?_
          rintro e W12 ⟨rfl, k12⟩
          replace hB := below_seq hB k12
          replace xf := xf.seq k12
          replace xw := xw.seq k12
          clear k12
          clear xf0 xf1 xf2 xf3 xf4
          obtain ⟨xf0, xf1, xf2, xf3, xf4⟩ := xf.cells
          clear xw0 xw1 xw2 xw3 xw4
          obtain ⟨xw0, xw1, xw2, xw3, xw4⟩ := xw.cells
          go_wp2
          go_ret
          exact ⟨rfl, hB⟩
    · have TE := Lib.hid (fun (W : World) => (show Calls Try.prog 21 #[.agg #[.string B, .string B, .int .i64 0, .int .i64 0, .int .i64 (n : Int)], .int .i64 bank] W fun e W' => e = .returned (.tuple #[.agg #[.string B, .string B, .int .i64 0, .int .i64 0, .int .i64 (n : Int)], .int .i64 1]) ∧ Below W.heap.size W W' from by
        have h := flErase (⟨B, B, 0, 0, (n : Int)⟩ : Fl) bank W (erase_ok hBz (by omega) (by omega) (by omega))
        rwa [(erase_arg h0 h1).1, (erase_arg h0 h1).2] at h))
      have n0 : (bank != 0) = true := bne_iff_ne.2 h0
      have n1 : (bank != 1) = true := bne_iff_ne.2 h1
      clear hBb hBl h0 h1
      go_enter Try.func4, Try.ntmps4
      go_wp2_with fail
      refine (TN.out _).mono ?_
      rintro e W1 ⟨rfl, k1⟩
      replace hB := below_seq hB k1
      clear k1
      have xf := FlBox.new 25 W1 (⟨B, B, 0, 0, (n : Int)⟩ : Fl)
      have hW1 := hB.size
      replace hB := hB.alloc hB.size (.cells #[.string B, .string B, .int .i64 0, .int .i64 0, .int .i64 (n : Int)] 25)
      go_wp2
      generalize W1.alloc (.cells #[.string B, .string B, .int .i64 0, .int .i64 0, .int .i64 (n : Int)] 25) = W0 at hB xf ⊢
      generalize W1.heap.size = Bf at hW1 xf ⊢
      go_loopw [9] (fun i wr => i = .int .i64 0 ∧ FlBox 25 wr Bf (⟨B, B, 0, 0, (n : Int)⟩ : Fl) ∧ Below W.heap.size W wr)
        (fun _ _ => 0)
      case atStart => exact ⟨rfl, xf, hB⟩
      case round =>
        clear xf hB
        obtain ⟨rfl, xf, hB⟩ := hrel
        obtain ⟨xf0, xf1, xf2, xf3, xf4⟩ := xf.cells
        by_cases hlt : 0 < n
        · have hlt2 : (0 : Int) < (n : Int) := by omega
          go_wp2_with fail
          refine (TE.out _).mono ?_
          rintro e W3 ⟨rfl, k3⟩
          replace hB := below_seq hB k3
          replace xf := xf.seq k3
          clear k3
          clear xf0 xf1 xf2 xf3 xf4
          obtain ⟨xf0, xf1, xf2, xf3, xf4⟩ := xf.cells
          have xa := FlBox.new 25 W3 (⟨B, B, 0, 0, (n : Int)⟩ : Fl)
          replace xf := xf.alloc (.cells #[.string B, .string B, .int .i64 0, .int .i64 0, .int .i64 (n : Int)] 25)
          replace hB := hB.alloc hB.size (.cells #[.string B, .string B, .int .i64 0, .int .i64 0, .int .i64 (n : Int)] 25)
          clear xf0 xf1 xf2 xf3 xf4
          obtain ⟨xf0, xf1, xf2, xf3, xf4⟩ := xf.cells
          obtain ⟨xa0, xa1, xa2, xa3, xa4⟩ := xa.cells
          go_wp2_with fail
          refine (flShown _).mono ?_
          rintro e W4 ⟨rfl, k4⟩
          replace hB := below_seq hB k4
          replace xf := xf.seq k4
          replace xa := xa.seq k4
          clear k4
          clear xf0 xf1 xf2 xf3 xf4
          obtain ⟨xf0, xf1, xf2, xf3, xf4⟩ := xf.cells
          clear xa0 xa1 xa2 xa3 xa4
          obtain ⟨xa0, xa1, xa2, xa3, xa4⟩ := xa.cells
          go_wp2
          go_ret
          exact ⟨rfl, hB⟩
        · have hlt2 : ¬ (0 : Int) < (n : Int) := by omega
          go_wp2_with fail
          refine (TE.out _).mono ?_
          rintro e W11 ⟨rfl, k11⟩
          replace hB := below_seq hB k11
          replace xf := xf.seq k11
          clear k11
          clear xf0 xf1 xf2 xf3 xf4
          obtain ⟨xf0, xf1, xf2, xf3, xf4⟩ := xf.cells
          have xa := FlBox.new 25 W11 (⟨B, B, 0, 0, (n : Int)⟩ : Fl)
          replace xf := xf.alloc (.cells #[.string B, .string B, .int .i64 0, .int .i64 0, .int .i64 (n : Int)] 25)
          replace hB := hB.alloc hB.size (.cells #[.string B, .string B, .int .i64 0, .int .i64 0, .int .i64 (n : Int)] 25)
          clear xf0 xf1 xf2 xf3 xf4
          obtain ⟨xf0, xf1, xf2, xf3, xf4⟩ := xf.cells
          obtain ⟨xa0, xa1, xa2, xa3, xa4⟩ := xa.cells
          go_wp2_with fail
          refine (flShown _).mono ?_
          rintro e W12 ⟨rfl, k12⟩
          replace hB := below_seq hB k12
          replace xf := xf.seq k12
          replace xa := xa.seq k12
          clear k12
          clear xf0 xf1 xf2 xf3 xf4
          obtain ⟨xf0, xf1, xf2, xf3, xf4⟩ := xf.cells
          clear xa0 xa1 xa2 xa3 xa4
          obtain ⟨xa0, xa1, xa2, xa3, xa4⟩ := xa.cells
          go_wp2
          go_ret
          exact ⟨rfl, hB⟩

theorem own : ownKnob Try.prog.godebug = none := by kernel_rfl

set_option maxRecDepth 100000 in
theorem lifted (os : Os) (started : os.Started) (H : Type) (enc : TypeId × Value → H) :
    ReturnsInHanded {} Try.checked os 4 .any (Rows.flashErasesSpec.pre6 enc Try.prog Try.f4 Rows.flashErasesRow.domain false) (Rows.flashErasesSpec.post enc Try.prog Try.f4 false true false false) := by
  refine returnsInHanded_of_change (C := Try.checked) own started (by kernel_rfl) Try.func4
    (ChangeSpec.witness6 (enc := enc) (C := Try.checked) false ⟨#[], #[.int .u8 0, .int .u8 0, .int .i64 0], []⟩ 8 (by kernel_rfl) (by kernel_rfl) (by kernel_rfl) (by kernel_rfl)) ?_
  intro W base args ds gs before hval hW _ _
  have hW' := hW
  obtain ⟨p, q, hA0, hV, rfl, hfz, hnd⟩ := hW
  have hA : DataW.TrodAll enc Try.prog W 0 (fun _ => true) true Try.f4.params.toList args.toList ds p := hA0
  rw [Try.params4] at hA hval
  obtain ⟨v0, vs0, d0, ds0, p0, q0, hargs, rfl, rfl, h0, r0⟩ := trodAll_cons hA
  obtain ⟨v1, vs1, d1, ds1, p1, q1, rfl, rfl, rfl, h1, r1⟩ := trodAll_cons r0
  obtain ⟨v2, vs2, d2, ds2, p2, q2, rfl, rfl, rfl, h2, r2⟩ := trodAll_cons r1
  obtain ⟨rfl, rfl, rfl⟩ := trodAll_nil r2
  obtain rfl : args = #[v0, v1, v2] := by cases args; simp_all
  obtain ⟨rfl, rfl⟩ := trodVars_none hV
  obtain ⟨a0, rfl, rfl, rfl, w0⟩ := open_int Try.underlying5 (hval 0 5 v0 rfl rfl) h0
  obtain ⟨c0, rfl⟩ := int_u8 w0
  obtain ⟨a1, rfl, rfl, rfl, w1⟩ := open_int Try.underlying5 (hval 1 5 v1 rfl rfl) h1
  obtain ⟨c1, rfl⟩ := int_u8 w1
  obtain ⟨a2, rfl, rfl, rfl, w2⟩ := open_int Try.underlying3 (hval 2 3 v2 rfl rfl) h2
  clear hA0
  simp only [List.append_nil] at hW'
  refine (walk c0 c1 a2 W (int_i64 w2)).mono fun e W' ⟨he, hB⟩ => ?_
  subst he
  exact ⟨_, rfl, ⟨_, _, _, [], _, [], hW', trodAll_cons_mk (shut_bool Try.underlying4 _) trodAll_mk0, (trodAll_cons_mk (shut_int Try.underlying5 w0) (trodAll_cons_mk (shut_int Try.underlying5 w1) (trodAll_cons_mk (shut_int Try.underlying3 w2) trodAll_mk0))), rfl, hB.frame _, fun h => by cases h⟩⟩

theorem holds : Rows.FlashErasesSaid :=
  OpenClaim.holds_of_wide 4 Try.f4 rfl rfl rfl rfl rfl rfl rfl ⟨rfl, rfl, rfl, rfl, rfl⟩ rfl rfl rfl rfl rfl (by kernel_rfl) Try.func4 (by kernel_rfl)
    (of_decide_eq_true (by kernel_rfl)) (by unfold Func.isWrapper; first | (rw [if_pos (by decide +kernel)]; kernel_rfl) | (rw [if_neg (by decide +kernel)]; exact ⟨rfl, rfl⟩))
    (fun os started H enc _ => lifted os started H enc)
end Go.Proofs.Ytoemjfjmpmngeab.FlashErases

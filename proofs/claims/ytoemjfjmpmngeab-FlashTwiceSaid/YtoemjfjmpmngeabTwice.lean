/- What is programmed twice is programmed once, and of two programs it does not matter which is first (FlashTwice); no condition. -/
import Derived.Test.YtoemjfjmpmngeabFlashEq
import Derived.Test.YtoemjfjmpmngeabFlashOwn
import Derived.Test.YtoemjfjmpmngeabFlashPlain
import Derived.Test.YtoemjfjmpmngeabFlashOpen
import Derived.ProofKit
import Derived.OpenShut
import Derived.ChangeMaps5
import Derived.Test.YtoemjfjmpmngeabInts
namespace Go.Proofs.Ytoemjfjmpmngeab.FlashTwice
open Go.ChangeShapes Go.WideShapes Go.ChangeAt Go.RowKit Go.ChangeMaps
set_option linter.unusedVariables false
attribute [local go_sem] eqS2 eqI2

set_option maxRecDepth 100000 in
set_option maxHeartbeats 4000000 in
theorem walk (f : Fl) (bank : Int) (a : Int) (b : Int) (s : ByteArray) (t : ByteArray) (W : World) (hf : f.ok) (hbank : -9223372036854775808 ≤ bank ∧ bank ≤ 9223372036854775807) (ha : -9223372036854775808 ≤ a ∧ a ≤ 9223372036854775807) (hb : -9223372036854775808 ≤ b ∧ b ≤ 9223372036854775807) (hs : s.size ≤ maxLen) (ht : t.size ≤ maxLen) :
    Calls Try.prog 5 #[.agg #[.string f.b0, .string f.b1, .int .i64 f.e0, .int .i64 f.e1, .int .i64 f.lim], .int .i64 bank, .int .i64 a, .int .i64 b, .string s, .string t] W fun e W' => e = .returned (.bool true) ∧ Below W.heap.size W W' := by
  by_cases hg : bigB f = true
  · have TB := Lib.hid (fun W => (show Calls Try.prog 15 #[.agg #[.string f.b0, .string f.b1, .int .i64 f.e0, .int .i64 f.e1, .int .i64 f.lim]] W fun e W' => e = .returned (.bool true) ∧ Below W.heap.size W W' from by have h := flBig f W hf; rwa [hg] at h))
    clear hg
    go_enter Try.func5, Try.ntmps5
    have hB : Below W.heap.size W (W.alloc (.cells #[.string f.b0, .string f.b1, .int .i64 f.e0, .int .i64 f.e1, .int .i64 f.lim] 25)) := (Below.refl _ _).alloc (Nat.le_refl _) _
    have xf := FlBox.new 25 W f
    go_wp2_with fail
    refine (TB.out _).mono ?_
    rintro e W1 ⟨rfl, k1⟩
    replace hB := below_seq hB k1
    replace xf := xf.seq k1
    clear k1
    obtain ⟨xf0, xf1, xf2, xf3, xf4⟩ := xf.cells
    go_wp2_with fail
    refine (flShown _).mono ?_
    rintro e W2 ⟨rfl, k2⟩
    replace hB := below_seq hB k2
    replace xf := xf.seq k2
    clear k2
    clear xf0 xf1 xf2 xf3 xf4
    obtain ⟨xf0, xf1, xf2, xf3, xf4⟩ := xf.cells
    go_wp2
    go_ret
    exact ⟨rfl, hB⟩
  · have TB := Lib.hid (fun W => (show Calls Try.prog 15 #[.agg #[.string f.b0, .string f.b1, .int .i64 f.e0, .int .i64 f.e1, .int .i64 f.lim]] W fun e W' => e = .returned (.bool false) ∧ Below W.heap.size W W' from by have h := flBig f W hf; rwa [show bigB f = false from by simpa using hg] at h))
    have hbig := bigB_no (show bigB f = false from by simpa using hg)
    obtain ⟨hz0, hz1⟩ := hbig
    replace hf : f.fit := ⟨hf, by omega, by omega⟩
    clear hg
    by_cases hc0 : 500 < s.size
    · go_enter Try.func5, Try.ntmps5
      have hB : Below W.heap.size W (W.alloc (.cells #[.string f.b0, .string f.b1, .int .i64 f.e0, .int .i64 f.e1, .int .i64 f.lim] 25)) := (Below.refl _ _).alloc (Nat.le_refl _) _
      have xf := FlBox.new 25 W f
      go_wp2_with fail
      refine (TB.out _).mono ?_
      rintro e W1 ⟨rfl, k1⟩
      replace hB := below_seq hB k1
      replace xf := xf.seq k1
      clear k1
      obtain ⟨xf0, xf1, xf2, xf3, xf4⟩ := xf.cells
      go_wp2_with fail
      refine (flShown _).mono ?_
      rintro e W2 ⟨rfl, k2⟩
      replace hB := below_seq hB k2
      replace xf := xf.seq k2
      clear k2
      clear xf0 xf1 xf2 xf3 xf4
      obtain ⟨xf0, xf1, xf2, xf3, xf4⟩ := xf.cells
      go_wp2
      go_ret
      exact ⟨rfl, hB⟩
    · have hd0 : ¬ (500 < s.size) := hc0
      by_cases hc1 : 500 < t.size
      · go_enter Try.func5, Try.ntmps5
        have hB : Below W.heap.size W (W.alloc (.cells #[.string f.b0, .string f.b1, .int .i64 f.e0, .int .i64 f.e1, .int .i64 f.lim] 25)) := (Below.refl _ _).alloc (Nat.le_refl _) _
        have xf := FlBox.new 25 W f
        go_wp2_with fail
        refine (TB.out _).mono ?_
        rintro e W1 ⟨rfl, k1⟩
        replace hB := below_seq hB k1
        replace xf := xf.seq k1
        clear k1
        obtain ⟨xf0, xf1, xf2, xf3, xf4⟩ := xf.cells
        go_wp2_with fail
        refine (flShown _).mono ?_
        rintro e W2 ⟨rfl, k2⟩
        replace hB := below_seq hB k2
        replace xf := xf.seq k2
        clear k2
        clear xf0 xf1 xf2 xf3 xf4
        obtain ⟨xf0, xf1, xf2, xf3, xf4⟩ := xf.cells
        go_wp2
        go_ret
        exact ⟨rfl, hB⟩
      · have hd1 : ¬ (500 < t.size) := hc1
        have hx := progF_fit hf bank a s
        have hu := progF_fit hf bank b t
        have T20 : ∀ W, Calls Try.prog 17 #[.agg #[.string (progF f bank a s).b0, .string (progF f bank a s).b1, .int .i64 (progF f bank a s).e0, .int .i64 (progF f bank a s).e1, .int .i64 (progF f bank a s).lim], .int .i64 bank, .int .i64 a, .string s] W fun e W' => e = .returned (.tuple #[.agg #[.string (progF f bank a s).b0, .string (progF f bank a s).b1, .int .i64 (progF f bank a s).e0, .int .i64 (progF f bank a s).e1, .int .i64 (progF f bank a s).lim], .int .i64 (progErr f bank a s)]) ∧ Below W.heap.size W W' := fun W => by
          have h := flProgram (progF f bank a s) bank a s W hx hs; rwa [prog_idem, progErr_prog] at h
        have T2 := Lib.hid T20
        clear T20
        have T30 : ∀ W, Calls Try.prog 17 #[.agg #[.string (progF f bank a s).b0, .string (progF f bank a s).b1, .int .i64 (progF f bank a s).e0, .int .i64 (progF f bank a s).e1, .int .i64 (progF f bank a s).lim], .int .i64 bank, .int .i64 b, .string t] W fun e W' => e = .returned (.tuple #[.agg #[.string (progF (progF f bank a s) bank b t).b0, .string (progF (progF f bank a s) bank b t).b1, .int .i64 (progF (progF f bank a s) bank b t).e0, .int .i64 (progF (progF f bank a s) bank b t).e1, .int .i64 (progF (progF f bank a s) bank b t).lim], .int .i64 (progErr f bank b t)]) ∧ Below W.heap.size W W' := fun W => by
          have h := flProgram (progF f bank a s) bank b t W hx ht; rwa [progErr_prog] at h
        have T3 := Lib.hid T30
        clear T30
        have T50 : ∀ W, Calls Try.prog 17 #[.agg #[.string (progF f bank b t).b0, .string (progF f bank b t).b1, .int .i64 (progF f bank b t).e0, .int .i64 (progF f bank b t).e1, .int .i64 (progF f bank b t).lim], .int .i64 bank, .int .i64 a, .string s] W fun e W' => e = .returned (.tuple #[.agg #[.string (progF (progF f bank a s) bank b t).b0, .string (progF (progF f bank a s) bank b t).b1, .int .i64 (progF (progF f bank a s) bank b t).e0, .int .i64 (progF (progF f bank a s) bank b t).e1, .int .i64 (progF (progF f bank a s) bank b t).lim], .int .i64 (progErr f bank a s)]) ∧ Below W.heap.size W W' := fun W => by
          have h := flProgram (progF f bank b t) bank a s W hu hs; rwa [progErr_prog, prog_comm] at h
        have T5 := Lib.hid T50
        clear T50
        go_enter Try.func5, Try.ntmps5
        have hB : Below W.heap.size W (W.alloc (.cells #[.string f.b0, .string f.b1, .int .i64 f.e0, .int .i64 f.e1, .int .i64 f.lim] 25)) := (Below.refl _ _).alloc (Nat.le_refl _) _
        have xf := FlBox.new 25 W f
        go_wp2_with fail
        refine (TB.out _).mono ?_
        rintro e W1 ⟨rfl, k1⟩
        replace hB := below_seq hB k1
        replace xf := xf.seq k1
        clear k1
        obtain ⟨xf0, xf1, xf2, xf3, xf4⟩ := xf.cells
        go_wp2_with fail
        refine (flShown _).mono ?_
        rintro e W2 ⟨rfl, k2⟩
        replace hB := below_seq hB k2
        replace xf := xf.seq k2
        clear k2
        clear xf0 xf1 xf2 xf3 xf4
        obtain ⟨xf0, xf1, xf2, xf3, xf4⟩ := xf.cells
        go_wp2_with fail
        refine (flProgram f _ _ _ _ hf hs).mono ?_
        rintro e W3 ⟨rfl, k3⟩
        replace hB := below_seq hB k3
        replace xf := xf.seq k3
        clear k3
        clear xf0 xf1 xf2 xf3 xf4
        obtain ⟨xf0, xf1, xf2, xf3, xf4⟩ := xf.cells
        have xx := FlBox.new 25 W3 (progF f bank a s)
        replace xf := xf.alloc (.cells #[.string (progF f bank a s).b0, .string (progF f bank a s).b1, .int .i64 (progF f bank a s).e0, .int .i64 (progF f bank a s).e1, .int .i64 (progF f bank a s).lim] 25)
        replace hB := hB.alloc hB.size (.cells #[.string (progF f bank a s).b0, .string (progF f bank a s).b1, .int .i64 (progF f bank a s).e0, .int .i64 (progF f bank a s).e1, .int .i64 (progF f bank a s).lim] 25)
        clear xf0 xf1 xf2 xf3 xf4
        obtain ⟨xf0, xf1, xf2, xf3, xf4⟩ := xf.cells
        obtain ⟨xx0, xx1, xx2, xx3, xx4⟩ := xx.cells
        go_wp2_with fail
        refine (T2.out _).mono ?_
        rintro e W4 ⟨rfl, k4⟩
        replace hB := below_seq hB k4
        replace xf := xf.seq k4
        replace xx := xx.seq k4
        clear k4
        clear xf0 xf1 xf2 xf3 xf4
        obtain ⟨xf0, xf1, xf2, xf3, xf4⟩ := xf.cells
        clear xx0 xx1 xx2 xx3 xx4
        obtain ⟨xx0, xx1, xx2, xx3, xx4⟩ := xx.cells
        have xy := FlBox.new 25 W4 (progF f bank a s)
        replace xf := xf.alloc (.cells #[.string (progF f bank a s).b0, .string (progF f bank a s).b1, .int .i64 (progF f bank a s).e0, .int .i64 (progF f bank a s).e1, .int .i64 (progF f bank a s).lim] 25)
        replace xx := xx.alloc (.cells #[.string (progF f bank a s).b0, .string (progF f bank a s).b1, .int .i64 (progF f bank a s).e0, .int .i64 (progF f bank a s).e1, .int .i64 (progF f bank a s).lim] 25)
        replace hB := hB.alloc hB.size (.cells #[.string (progF f bank a s).b0, .string (progF f bank a s).b1, .int .i64 (progF f bank a s).e0, .int .i64 (progF f bank a s).e1, .int .i64 (progF f bank a s).lim] 25)
        clear xf0 xf1 xf2 xf3 xf4
        obtain ⟨xf0, xf1, xf2, xf3, xf4⟩ := xf.cells
        clear xx0 xx1 xx2 xx3 xx4
        obtain ⟨xx0, xx1, xx2, xx3, xx4⟩ := xx.cells
        obtain ⟨xy0, xy1, xy2, xy3, xy4⟩ := xy.cells
        go_wp2_with fail
        refine (T3.out _).mono ?_
        rintro e W5 ⟨rfl, k5⟩
        replace hB := below_seq hB k5
        replace xf := xf.seq k5
        replace xx := xx.seq k5
        replace xy := xy.seq k5
        clear k5
        clear xf0 xf1 xf2 xf3 xf4
        obtain ⟨xf0, xf1, xf2, xf3, xf4⟩ := xf.cells
        clear xx0 xx1 xx2 xx3 xx4
        obtain ⟨xx0, xx1, xx2, xx3, xx4⟩ := xx.cells
        clear xy0 xy1 xy2 xy3 xy4
        obtain ⟨xy0, xy1, xy2, xy3, xy4⟩ := xy.cells
        have xz := FlBox.new 25 W5 (progF (progF f bank a s) bank b t)
        replace xf := xf.alloc (.cells #[.string (progF (progF f bank a s) bank b t).b0, .string (progF (progF f bank a s) bank b t).b1, .int .i64 (progF (progF f bank a s) bank b t).e0, .int .i64 (progF (progF f bank a s) bank b t).e1, .int .i64 (progF (progF f bank a s) bank b t).lim] 25)
        replace xx := xx.alloc (.cells #[.string (progF (progF f bank a s) bank b t).b0, .string (progF (progF f bank a s) bank b t).b1, .int .i64 (progF (progF f bank a s) bank b t).e0, .int .i64 (progF (progF f bank a s) bank b t).e1, .int .i64 (progF (progF f bank a s) bank b t).lim] 25)
        replace xy := xy.alloc (.cells #[.string (progF (progF f bank a s) bank b t).b0, .string (progF (progF f bank a s) bank b t).b1, .int .i64 (progF (progF f bank a s) bank b t).e0, .int .i64 (progF (progF f bank a s) bank b t).e1, .int .i64 (progF (progF f bank a s) bank b t).lim] 25)
        replace hB := hB.alloc hB.size (.cells #[.string (progF (progF f bank a s) bank b t).b0, .string (progF (progF f bank a s) bank b t).b1, .int .i64 (progF (progF f bank a s) bank b t).e0, .int .i64 (progF (progF f bank a s) bank b t).e1, .int .i64 (progF (progF f bank a s) bank b t).lim] 25)
        clear xf0 xf1 xf2 xf3 xf4
        obtain ⟨xf0, xf1, xf2, xf3, xf4⟩ := xf.cells
        clear xx0 xx1 xx2 xx3 xx4
        obtain ⟨xx0, xx1, xx2, xx3, xx4⟩ := xx.cells
        clear xy0 xy1 xy2 xy3 xy4
        obtain ⟨xy0, xy1, xy2, xy3, xy4⟩ := xy.cells
        obtain ⟨xz0, xz1, xz2, xz3, xz4⟩ := xz.cells
        go_wp2_with fail
        refine (flProgram f _ _ _ _ hf ht).mono ?_
        rintro e W6 ⟨rfl, k6⟩
        replace hB := below_seq hB k6
        replace xf := xf.seq k6
        replace xx := xx.seq k6
        replace xy := xy.seq k6
        replace xz := xz.seq k6
        clear k6
        clear xf0 xf1 xf2 xf3 xf4
        obtain ⟨xf0, xf1, xf2, xf3, xf4⟩ := xf.cells
        clear xx0 xx1 xx2 xx3 xx4
        obtain ⟨xx0, xx1, xx2, xx3, xx4⟩ := xx.cells
        clear xy0 xy1 xy2 xy3 xy4
        obtain ⟨xy0, xy1, xy2, xy3, xy4⟩ := xy.cells
        clear xz0 xz1 xz2 xz3 xz4
        obtain ⟨xz0, xz1, xz2, xz3, xz4⟩ := xz.cells
        have xu := FlBox.new 25 W6 (progF f bank b t)
        replace xf := xf.alloc (.cells #[.string (progF f bank b t).b0, .string (progF f bank b t).b1, .int .i64 (progF f bank b t).e0, .int .i64 (progF f bank b t).e1, .int .i64 (progF f bank b t).lim] 25)
        replace xx := xx.alloc (.cells #[.string (progF f bank b t).b0, .string (progF f bank b t).b1, .int .i64 (progF f bank b t).e0, .int .i64 (progF f bank b t).e1, .int .i64 (progF f bank b t).lim] 25)
        replace xy := xy.alloc (.cells #[.string (progF f bank b t).b0, .string (progF f bank b t).b1, .int .i64 (progF f bank b t).e0, .int .i64 (progF f bank b t).e1, .int .i64 (progF f bank b t).lim] 25)
        replace xz := xz.alloc (.cells #[.string (progF f bank b t).b0, .string (progF f bank b t).b1, .int .i64 (progF f bank b t).e0, .int .i64 (progF f bank b t).e1, .int .i64 (progF f bank b t).lim] 25)
        replace hB := hB.alloc hB.size (.cells #[.string (progF f bank b t).b0, .string (progF f bank b t).b1, .int .i64 (progF f bank b t).e0, .int .i64 (progF f bank b t).e1, .int .i64 (progF f bank b t).lim] 25)
        clear xf0 xf1 xf2 xf3 xf4
        obtain ⟨xf0, xf1, xf2, xf3, xf4⟩ := xf.cells
        clear xx0 xx1 xx2 xx3 xx4
        obtain ⟨xx0, xx1, xx2, xx3, xx4⟩ := xx.cells
        clear xy0 xy1 xy2 xy3 xy4
        obtain ⟨xy0, xy1, xy2, xy3, xy4⟩ := xy.cells
        clear xz0 xz1 xz2 xz3 xz4
        obtain ⟨xz0, xz1, xz2, xz3, xz4⟩ := xz.cells
        obtain ⟨xu0, xu1, xu2, xu3, xu4⟩ := xu.cells
        go_wp2_with fail
        refine (T5.out _).mono ?_
        rintro e W7 ⟨rfl, k7⟩
        replace hB := below_seq hB k7
        replace xf := xf.seq k7
        replace xx := xx.seq k7
        replace xy := xy.seq k7
        replace xz := xz.seq k7
        replace xu := xu.seq k7
        clear k7
        clear xf0 xf1 xf2 xf3 xf4
        obtain ⟨xf0, xf1, xf2, xf3, xf4⟩ := xf.cells
        clear xx0 xx1 xx2 xx3 xx4
        obtain ⟨xx0, xx1, xx2, xx3, xx4⟩ := xx.cells
        clear xy0 xy1 xy2 xy3 xy4
        obtain ⟨xy0, xy1, xy2, xy3, xy4⟩ := xy.cells
        clear xz0 xz1 xz2 xz3 xz4
        obtain ⟨xz0, xz1, xz2, xz3, xz4⟩ := xz.cells
        clear xu0 xu1 xu2 xu3 xu4
        obtain ⟨xu0, xu1, xu2, xu3, xu4⟩ := xu.cells
        have xv := FlBox.new 25 W7 (progF (progF f bank a s) bank b t)
        replace xf := xf.alloc (.cells #[.string (progF (progF f bank a s) bank b t).b0, .string (progF (progF f bank a s) bank b t).b1, .int .i64 (progF (progF f bank a s) bank b t).e0, .int .i64 (progF (progF f bank a s) bank b t).e1, .int .i64 (progF (progF f bank a s) bank b t).lim] 25)
        replace xx := xx.alloc (.cells #[.string (progF (progF f bank a s) bank b t).b0, .string (progF (progF f bank a s) bank b t).b1, .int .i64 (progF (progF f bank a s) bank b t).e0, .int .i64 (progF (progF f bank a s) bank b t).e1, .int .i64 (progF (progF f bank a s) bank b t).lim] 25)
        replace xy := xy.alloc (.cells #[.string (progF (progF f bank a s) bank b t).b0, .string (progF (progF f bank a s) bank b t).b1, .int .i64 (progF (progF f bank a s) bank b t).e0, .int .i64 (progF (progF f bank a s) bank b t).e1, .int .i64 (progF (progF f bank a s) bank b t).lim] 25)
        replace xz := xz.alloc (.cells #[.string (progF (progF f bank a s) bank b t).b0, .string (progF (progF f bank a s) bank b t).b1, .int .i64 (progF (progF f bank a s) bank b t).e0, .int .i64 (progF (progF f bank a s) bank b t).e1, .int .i64 (progF (progF f bank a s) bank b t).lim] 25)
        replace xu := xu.alloc (.cells #[.string (progF (progF f bank a s) bank b t).b0, .string (progF (progF f bank a s) bank b t).b1, .int .i64 (progF (progF f bank a s) bank b t).e0, .int .i64 (progF (progF f bank a s) bank b t).e1, .int .i64 (progF (progF f bank a s) bank b t).lim] 25)
        replace hB := hB.alloc hB.size (.cells #[.string (progF (progF f bank a s) bank b t).b0, .string (progF (progF f bank a s) bank b t).b1, .int .i64 (progF (progF f bank a s) bank b t).e0, .int .i64 (progF (progF f bank a s) bank b t).e1, .int .i64 (progF (progF f bank a s) bank b t).lim] 25)
        clear xf0 xf1 xf2 xf3 xf4
        obtain ⟨xf0, xf1, xf2, xf3, xf4⟩ := xf.cells
        clear xx0 xx1 xx2 xx3 xx4
        obtain ⟨xx0, xx1, xx2, xx3, xx4⟩ := xx.cells
        clear xy0 xy1 xy2 xy3 xy4
        obtain ⟨xy0, xy1, xy2, xy3, xy4⟩ := xy.cells
        clear xz0 xz1 xz2 xz3 xz4
        obtain ⟨xz0, xz1, xz2, xz3, xz4⟩ := xz.cells
        clear xu0 xu1 xu2 xu3 xu4
        obtain ⟨xu0, xu1, xu2, xu3, xu4⟩ := xu.cells
        obtain ⟨xv0, xv1, xv2, xv3, xv4⟩ := xv.cells
        go_wp2
        go_ret
        exact ⟨rfl, hB⟩

theorem own : ownKnob Try.prog.godebug = none := by kernel_rfl

set_option maxRecDepth 100000 in
theorem lifted (os : Os) (started : os.Started) (H : Type) (enc : TypeId × Value → H) :
    ReturnsInHanded {} Try.checked os 5 .any (Rows.flashTwiceSpec.pre6 enc Try.prog Try.f5 Rows.flashTwiceRow.domain false) (Rows.flashTwiceSpec.post enc Try.prog Try.f5 false true false false) := by
  refine returnsInHanded_of_change (C := Try.checked) own started (by kernel_rfl) Try.func5
    (ChangeSpec.witness6 (enc := enc) (C := Try.checked) false ⟨#[], #[.agg #[.string ⟨#[]⟩, .string ⟨#[]⟩, .int .i64 0, .int .i64 0, .int .i64 0], .int .i64 0, .int .i64 0, .int .i64 0, .string ⟨#[]⟩, .string ⟨#[]⟩], []⟩ 8 (by kernel_rfl) (by kernel_rfl) (by kernel_rfl) (by kernel_rfl)) ?_
  intro W base args ds gs before hval hW _ _
  have hW' := hW
  obtain ⟨p, q, hA0, hV, rfl, hfz, hnd⟩ := hW
  have hA : DataW.TrodAll enc Try.prog W 0 (fun _ => true) true Try.f5.params.toList args.toList ds p := hA0
  rw [Try.params5] at hA hval
  obtain ⟨v0, vs0, d0, ds0, p0, q0, hargs, rfl, rfl, h0, r0⟩ := trodAll_cons hA
  obtain ⟨v1, vs1, d1, ds1, p1, q1, rfl, rfl, rfl, h1, r1⟩ := trodAll_cons r0
  obtain ⟨v2, vs2, d2, ds2, p2, q2, rfl, rfl, rfl, h2, r2⟩ := trodAll_cons r1
  obtain ⟨v3, vs3, d3, ds3, p3, q3, rfl, rfl, rfl, h3, r3⟩ := trodAll_cons r2
  obtain ⟨v4, vs4, d4, ds4, p4, q4, rfl, rfl, rfl, h4, r4⟩ := trodAll_cons r3
  obtain ⟨v5, vs5, d5, ds5, p5, q5, rfl, rfl, rfl, h5, r5⟩ := trodAll_cons r4
  obtain ⟨rfl, rfl, rfl⟩ := trodAll_nil r5
  obtain rfl : args = #[v0, v1, v2, v3, v4, v5] := by cases args; simp_all
  obtain ⟨rfl, rfl⟩ := trodVars_none hV
  have k0 := h0
  obtain ⟨s0, rfl, hs0⟩ := open_fl (hval 0 25 v0 rfl rfl) h0
  obtain ⟨a1, rfl, rfl, rfl, w1⟩ := open_int Try.underlying3 (hval 1 3 v1 rfl rfl) h1
  obtain ⟨a2, rfl, rfl, rfl, w2⟩ := open_int Try.underlying3 (hval 2 3 v2 rfl rfl) h2
  obtain ⟨a3, rfl, rfl, rfl, w3⟩ := open_int Try.underlying3 (hval 3 3 v3 rfl rfl) h3
  obtain ⟨s4, rfl, rfl, rfl, hs4⟩ := open_string Try.underlying9 (hval 4 9 v4 rfl rfl) h4
  obtain ⟨s5, rfl, rfl, rfl, hs5⟩ := open_string Try.underlying9 (hval 5 9 v5 rfl rfl) h5
  clear hA0
  simp only [List.append_nil] at hW'
  refine (walk s0 a1 a2 a3 s4 s5 W hs0 (int_i64 w1) (int_i64 w2) (int_i64 w3) hs4 hs5).mono fun e W' ⟨he, hB⟩ => ?_
  subst he
  exact ⟨_, rfl, ⟨_, _, _, [], _, [], hW', trodAll_cons_mk (shut_bool Try.underlying4 _) trodAll_mk0, (trodAll_cons_mk (Below.trod Try.laidOut (by kernel_rfl) (of_decide_eq_true (by kernel_rfl)) k0 hB (fun x hx => by simpa using hW'.lt x (by simp [hx]))) (trodAll_cons_mk (shut_int Try.underlying3 w1) (trodAll_cons_mk (shut_int Try.underlying3 w2) (trodAll_cons_mk (shut_int Try.underlying3 w3) (trodAll_cons_mk (shut_string Try.underlying9 hs4) (trodAll_cons_mk (shut_string Try.underlying9 hs5) trodAll_mk0)))))), rfl, hB.frame _, fun h => by cases h⟩⟩

theorem holds : Rows.FlashTwiceSaid :=
  OpenClaim.holds_of_wide 5 Try.f5 rfl rfl rfl rfl rfl rfl rfl ⟨rfl, rfl, rfl, rfl, rfl⟩ rfl rfl rfl rfl rfl (by kernel_rfl) Try.func5 (by kernel_rfl)
    (of_decide_eq_true (by kernel_rfl)) (by unfold Func.isWrapper; first | (rw [if_pos (by decide +kernel)]; kernel_rfl) | (rw [if_neg (by decide +kernel)]; exact ⟨rfl, rfl⟩))
    (fun os started H enc _ => lifted os started H enc)
end Go.Proofs.Ytoemjfjmpmngeab.FlashTwice

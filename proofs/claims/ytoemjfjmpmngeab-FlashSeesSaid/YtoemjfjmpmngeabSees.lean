/- What was programmed is read (FlashSees); no condition. -/
import Derived.Test.YtoemjfjmpmngeabRef
import Derived.Test.YtoemjfjmpmngeabFlashEq
import Derived.Test.YtoemjfjmpmngeabFlashOwn
import Derived.Test.YtoemjfjmpmngeabFlashPlain
import Derived.Test.YtoemjfjmpmngeabFlashOpen
import Derived.ProofKit
import Derived.OpenShut
import Derived.ChangeMaps5
import Derived.Test.YtoemjfjmpmngeabInts
namespace Go.Proofs.Ytoemjfjmpmngeab.FlashSees
open Go.ChangeShapes Go.WideShapes Go.ChangeAt Go.RowKit Go.ChangeMaps
set_option linter.unusedVariables false
attribute [local go_sem] eqS2 eqI2

set_option maxRecDepth 100000 in
set_option maxHeartbeats 4000000 in
theorem walk (f : Fl) (bank : Int) (q : Int) (d : ByteArray) (W : World) (hf : f.ok) (hbank : -9223372036854775808 ≤ bank ∧ bank ≤ 9223372036854775807) (hq : -9223372036854775808 ≤ q ∧ q ≤ 9223372036854775807) (hd : d.size ≤ maxLen) :
    Calls Try.prog 7 #[.agg #[.string f.b0, .string f.b1, .int .i64 f.e0, .int .i64 f.e1, .int .i64 f.lim], .int .i64 bank, .int .i64 q, .string d] W fun e W' => e = .returned (.bool true) ∧ Below W.heap.size W W' := by
  have hd0 := hd
  unfold maxLen at hd0
  by_cases hg : bigB f = true
  · have TB := Lib.hid (fun W => (show Calls Try.prog 15 #[.agg #[.string f.b0, .string f.b1, .int .i64 f.e0, .int .i64 f.e1, .int .i64 f.lim]] W fun e W' => e = .returned (.bool true) ∧ Below W.heap.size W W' from by have h := flBig f W hf; rwa [hg] at h))
    clear hg
    go_enter Try.func7, Try.ntmps7
    have hB : Below W.heap.size W (W.alloc (.cells #[.string f.b0, .string f.b1, .int .i64 f.e0, .int .i64 f.e1, .int .i64 f.lim] 25)) := (Below.refl _ _).alloc (Nat.le_refl _) _
    have xf := FlBox.new 25 W f
    go_wp2_with fail
    refine (TB.out _).mono ?_
    rintro e W1 ⟨rfl, k1⟩
    replace hB := below_seq hB k1
    replace xf := xf.seq k1
    clear k1
    obtain ⟨xf0, xf1, xf2, xf3, xf4⟩ := xf.cells
    go_wp2_with fail
    refine (flShown _).mono ?_
    rintro e W2 ⟨rfl, k2⟩
    replace hB := below_seq hB k2
    replace xf := xf.seq k2
    clear k2
    clear xf0 xf1 xf2 xf3 xf4
    obtain ⟨xf0, xf1, xf2, xf3, xf4⟩ := xf.cells
    go_wp2
    go_ret
    exact ⟨rfl, hB⟩
  · have TB := Lib.hid (fun W => (show Calls Try.prog 15 #[.agg #[.string f.b0, .string f.b1, .int .i64 f.e0, .int .i64 f.e1, .int .i64 f.lim]] W fun e W' => e = .returned (.bool false) ∧ Below W.heap.size W W' from by have h := flBig f W hf; rwa [show bigB f = false from by simpa using hg] at h))
    have hbig := bigB_no (show bigB f = false from by simpa using hg)
    obtain ⟨hz0, hz1⟩ := hbig
    replace hf : f.fit := ⟨hf, by omega, by omega⟩
    clear hg
    by_cases hc0 : 500 < d.size
    · go_enter Try.func7, Try.ntmps7
      have hB : Below W.heap.size W (W.alloc (.cells #[.string f.b0, .string f.b1, .int .i64 f.e0, .int .i64 f.e1, .int .i64 f.lim] 25)) := (Below.refl _ _).alloc (Nat.le_refl _) _
      have xf := FlBox.new 25 W f
      go_wp2_with fail
      refine (TB.out _).mono ?_
      rintro e W1 ⟨rfl, k1⟩
      replace hB := below_seq hB k1
      replace xf := xf.seq k1
      clear k1
      obtain ⟨xf0, xf1, xf2, xf3, xf4⟩ := xf.cells
      go_wp2_with fail
      refine (flShown _).mono ?_
      rintro e W2 ⟨rfl, k2⟩
      replace hB := below_seq hB k2
      replace xf := xf.seq k2
      clear k2
      clear xf0 xf1 xf2 xf3 xf4
      obtain ⟨xf0, xf1, xf2, xf3, xf4⟩ := xf.cells
      go_wp2
      go_ret
      exact ⟨rfl, hB⟩
    · have hd0 : ¬ (500 < d.size) := hc0
      by_cases he : readErr f bank q d.size = 0
      · have z1 : ((readT f bank q d.size).size : Int) = (d.size : Int) := readT_size he
        by_cases hp : progErr f bank q d = 0
        · have hx := progF_fit hf bank q d
          have T10 : ∀ W, Calls Try.prog 23 #[.agg #[.string f.b0, .string f.b1, .int .i64 f.e0, .int .i64 f.e1, .int .i64 f.lim], .int .i64 bank, .int .i64 q, .int .i64 (d.size : Int)] W fun e W' => e = .returned (.tuple #[.string (readT f bank q d.size), .int .i64 0]) ∧ Below W.heap.size W W' := fun W => by
            have h := flRead f bank q d.size W hf; rwa [he] at h
          have T1 := Lib.hid T10
          clear T10
          have T20 : ∀ W, Calls Try.prog 17 #[.agg #[.string f.b0, .string f.b1, .int .i64 f.e0, .int .i64 f.e1, .int .i64 f.lim], .int .i64 bank, .int .i64 q, .string d] W fun e W' => e = .returned (.tuple #[.agg #[.string (progF f bank q d).b0, .string (progF f bank q d).b1, .int .i64 (progF f bank q d).e0, .int .i64 (progF f bank q d).e1, .int .i64 (progF f bank q d).lim], .int .i64 0]) ∧ Below W.heap.size W W' := fun W => by
            have h := flProgram f bank q d W hf hd; rwa [hp] at h
          have T2 := Lib.hid T20
          clear T20
          have T30 : ∀ W, Calls Try.prog 23 #[.agg #[.string (progF f bank q d).b0, .string (progF f bank q d).b1, .int .i64 (progF f bank q d).e0, .int .i64 (progF f bank q d).e1, .int .i64 (progF f bank q d).lim], .int .i64 bank, .int .i64 q, .int .i64 (d.size : Int)] W fun e W' => e = .returned (.tuple #[.string (andB (readT f bank q d.size) d), .int .i64 0]) ∧ Below W.heap.size W W' := fun W => by
            have h := flRead (progF f bank q d) bank q d.size W hx; rwa [read_prog hp, show readErr (progF f bank q d) bank q d.size = 0 from by have h2 := progErr_prog f bank q q d d; rw [hp] at h2; exact progErr_ok h2] at h
          have T3 := Lib.hid T30
          clear T30
          have hba : blankB (readT f bank q d.size) = true → andB (readT f bank q d.size) d = d := fun h => blank_and h (by omega)
          have Hba := Lib.hid hba
          have zw : (readT f bank q d.size).size ≤ 500 := by omega
          clear hba he hp z1
          generalize (readT f bank q d.size) = was at *
          go_enter Try.func7, Try.ntmps7
          have hB : Below W.heap.size W (W.alloc (.cells #[.string f.b0, .string f.b1, .int .i64 f.e0, .int .i64 f.e1, .int .i64 f.lim] 25)) := (Below.refl _ _).alloc (Nat.le_refl _) _
          have xf := FlBox.new 25 W f
          go_wp2_with fail
          refine (TB.out _).mono ?_
          rintro e W1 ⟨rfl, k1⟩
          replace hB := below_seq hB k1
          replace xf := xf.seq k1
          clear k1
          obtain ⟨xf0, xf1, xf2, xf3, xf4⟩ := xf.cells
          go_wp2_with fail
          refine (flShown _).mono ?_
          rintro e W2 ⟨rfl, k2⟩
          replace hB := below_seq hB k2
          replace xf := xf.seq k2
          clear k2
          clear xf0 xf1 xf2 xf3 xf4
          obtain ⟨xf0, xf1, xf2, xf3, xf4⟩ := xf.cells
          go_wp2_with fail
          refine (T1.out _).mono ?_
          rintro e W3 ⟨rfl, k3⟩
          replace hB := below_seq hB k3
          replace xf := xf.seq k3
          clear k3
          clear xf0 xf1 xf2 xf3 xf4
          obtain ⟨xf0, xf1, xf2, xf3, xf4⟩ := xf.cells
          go_wp2_with fail
          refine (T2.out _).mono ?_
          rintro e W4 ⟨rfl, k4⟩
          replace hB := below_seq hB k4
          replace xf := xf.seq k4
          clear k4
          clear xf0 xf1 xf2 xf3 xf4
          obtain ⟨xf0, xf1, xf2, xf3, xf4⟩ := xf.cells
          have xa := FlBox.new 25 W4 (progF f bank q d)
          replace xf := xf.alloc (.cells #[.string (progF f bank q d).b0, .string (progF f bank q d).b1, .int .i64 (progF f bank q d).e0, .int .i64 (progF f bank q d).e1, .int .i64 (progF f bank q d).lim] 25)
          replace hB := hB.alloc hB.size (.cells #[.string (progF f bank q d).b0, .string (progF f bank q d).b1, .int .i64 (progF f bank q d).e0, .int .i64 (progF f bank q d).e1, .int .i64 (progF f bank q d).lim] 25)
          clear xf0 xf1 xf2 xf3 xf4
          obtain ⟨xf0, xf1, xf2, xf3, xf4⟩ := xf.cells
          obtain ⟨xa0, xa1, xa2, xa3, xa4⟩ := xa.cells
          go_wp2_with fail
          refine (T3.out _).mono ?_
          rintro e W5 ⟨rfl, k5⟩
          replace hB := below_seq hB k5
          replace xf := xf.seq k5
          replace xa := xa.seq k5
          clear k5
          clear xf0 xf1 xf2 xf3 xf4
          obtain ⟨xf0, xf1, xf2, xf3, xf4⟩ := xf.cells
          clear xa0 xa1 xa2 xa3 xa4
          obtain ⟨xa0, xa1, xa2, xa3, xa4⟩ := xa.cells
          go_wp2_with fail
          refine (refAnd _ _ _ (by omega) (by unfold maxLen; omega)).mono ?_
          rintro e W6 ⟨rfl, k6⟩
          replace hB := below_seq hB k6
          clear k6
          by_cases hbl : blankB was = true
          · have hbe := Hba.out hbl
            have T4 := Lib.hid (fun W => (show Calls Try.prog 24 #[.string was] W fun e W' => e = .returned (.bool true) ∧ W' = W from by have h := refBlank3 was W (by omega); rwa [hbl] at h))
            clear hbl
            rw [hbe]
            clear hbe Hba
            go_wp2_with fail
            refine (T4.out _).mono ?_
            rintro e w' ⟨rfl, rfl⟩
            go_wp2
            go_ret
            exact ⟨rfl, hB⟩
          · have hbf : blankB was = false := by simpa using hbl
            have T4 := Lib.hid (fun W => (show Calls Try.prog 24 #[.string was] W fun e W' => e = .returned (.bool false) ∧ W' = W from by have h := refBlank3 was W (by omega); rwa [hbf] at h))
            clear hbl hbf Hba
            go_wp2_with fail
            refine (T4.out _).mono ?_
            rintro e w' ⟨rfl, rfl⟩
            go_wp2
            go_ret
            exact ⟨rfl, hB⟩
        · have hp3 := progErr_align he hp
          have hpf := progF_none hp
          have T10 : ∀ W, Calls Try.prog 23 #[.agg #[.string f.b0, .string f.b1, .int .i64 f.e0, .int .i64 f.e1, .int .i64 f.lim], .int .i64 bank, .int .i64 q, .int .i64 (d.size : Int)] W fun e W' => e = .returned (.tuple #[.string (readT f bank q d.size), .int .i64 0]) ∧ Below W.heap.size W W' := fun W => by
            have h := flRead f bank q d.size W hf; rwa [he] at h
          have T1 := Lib.hid T10
          clear T10
          have T20 : ∀ W, Calls Try.prog 17 #[.agg #[.string f.b0, .string f.b1, .int .i64 f.e0, .int .i64 f.e1, .int .i64 f.lim], .int .i64 bank, .int .i64 q, .string d] W fun e W' => e = .returned (.tuple #[.agg #[.string f.b0, .string f.b1, .int .i64 f.e0, .int .i64 f.e1, .int .i64 f.lim], .int .i64 3]) ∧ Below W.heap.size W W' := fun W => by
            have h := flProgram f bank q d W hf hd; rwa [hp3, hpf] at h
          have T2 := Lib.hid T20
          clear T20
          clear he hp hp3 hpf z1
          generalize (readT f bank q d.size) = was at *
          go_enter Try.func7, Try.ntmps7
          have hB : Below W.heap.size W (W.alloc (.cells #[.string f.b0, .string f.b1, .int .i64 f.e0, .int .i64 f.e1, .int .i64 f.lim] 25)) := (Below.refl _ _).alloc (Nat.le_refl _) _
          have xf := FlBox.new 25 W f
          go_wp2_with fail
          refine (TB.out _).mono ?_
          rintro e W1 ⟨rfl, k1⟩
          replace hB := below_seq hB k1
          replace xf := xf.seq k1
          clear k1
          obtain ⟨xf0, xf1, xf2, xf3, xf4⟩ := xf.cells
          go_wp2_with fail
          refine (flShown _).mono ?_
          rintro e W2 ⟨rfl, k2⟩
          replace hB := below_seq hB k2
          replace xf := xf.seq k2
          clear k2
          clear xf0 xf1 xf2 xf3 xf4
          obtain ⟨xf0, xf1, xf2, xf3, xf4⟩ := xf.cells
          go_wp2_with fail
          refine (T1.out _).mono ?_
          rintro e W3 ⟨rfl, k3⟩
          replace hB := below_seq hB k3
          replace xf := xf.seq k3
          clear k3
          clear xf0 xf1 xf2 xf3 xf4
          obtain ⟨xf0, xf1, xf2, xf3, xf4⟩ := xf.cells
          go_wp2_with fail
          refine (T2.out _).mono ?_
          rintro e W4 ⟨rfl, k4⟩
          replace hB := below_seq hB k4
          replace xf := xf.seq k4
          clear k4
          clear xf0 xf1 xf2 xf3 xf4
          obtain ⟨xf0, xf1, xf2, xf3, xf4⟩ := xf.cells
          have xa := FlBox.new 25 W4 f
          replace xf := xf.alloc (.cells #[.string f.b0, .string f.b1, .int .i64 f.e0, .int .i64 f.e1, .int .i64 f.lim] 25)
          replace hB := hB.alloc hB.size (.cells #[.string f.b0, .string f.b1, .int .i64 f.e0, .int .i64 f.e1, .int .i64 f.lim] 25)
          clear xf0 xf1 xf2 xf3 xf4
          obtain ⟨xf0, xf1, xf2, xf3, xf4⟩ := xf.cells
          obtain ⟨xa0, xa1, xa2, xa3, xa4⟩ := xa.cells
          go_wp2_with fail
          refine (T1.out _).mono ?_
          rintro e W5 ⟨rfl, k5⟩
          replace hB := below_seq hB k5
          replace xf := xf.seq k5
          replace xa := xa.seq k5
          clear k5
          clear xf0 xf1 xf2 xf3 xf4
          obtain ⟨xf0, xf1, xf2, xf3, xf4⟩ := xf.cells
          clear xa0 xa1 xa2 xa3 xa4
          obtain ⟨xa0, xa1, xa2, xa3, xa4⟩ := xa.cells
          go_wp2
          go_ret
          exact ⟨rfl, hB⟩
      · have hpe := progErr_read he
        have hpf := progF_none (show ¬ progErr f bank q d = 0 from by rw [hpe]; exact he)
        have he0 := readT_none he
        have hE : ((readErr f bank q d.size) != 0) = true := bne_iff_ne.2 he
        have T10 : ∀ W, Calls Try.prog 23 #[.agg #[.string f.b0, .string f.b1, .int .i64 f.e0, .int .i64 f.e1, .int .i64 f.lim], .int .i64 bank, .int .i64 q, .int .i64 (d.size : Int)] W fun e W' => e = .returned (.tuple #[.string ⟨#[]⟩, .int .i64 (readErr f bank q d.size)]) ∧ Below W.heap.size W W' := fun W => by
          have h := flRead f bank q d.size W hf; rwa [he0] at h
        have T1 := Lib.hid T10
        clear T10
        have T20 : ∀ W, Calls Try.prog 17 #[.agg #[.string f.b0, .string f.b1, .int .i64 f.e0, .int .i64 f.e1, .int .i64 f.lim], .int .i64 bank, .int .i64 q, .string d] W fun e W' => e = .returned (.tuple #[.agg #[.string f.b0, .string f.b1, .int .i64 f.e0, .int .i64 f.e1, .int .i64 f.lim], .int .i64 (readErr f bank q d.size)]) ∧ Below W.heap.size W W' := fun W => by
          have h := flProgram f bank q d W hf hd; rwa [hpe, hpf] at h
        have T2 := Lib.hid T20
        clear T20
        clear he hpe hpf he0
        generalize readErr f bank q d.size = E at *
        go_enter Try.func7, Try.ntmps7
        have hB : Below W.heap.size W (W.alloc (.cells #[.string f.b0, .string f.b1, .int .i64 f.e0, .int .i64 f.e1, .int .i64 f.lim] 25)) := (Below.refl _ _).alloc (Nat.le_refl _) _
        have xf := FlBox.new 25 W f
        go_wp2_with fail
        refine (TB.out _).mono ?_
        rintro e W1 ⟨rfl, k1⟩
        replace hB := below_seq hB k1
        replace xf := xf.seq k1
        clear k1
        obtain ⟨xf0, xf1, xf2, xf3, xf4⟩ := xf.cells
        go_wp2_with fail
        refine (flShown _).mono ?_
        rintro e W2 ⟨rfl, k2⟩
        replace hB := below_seq hB k2
        replace xf := xf.seq k2
        clear k2
        clear xf0 xf1 xf2 xf3 xf4
        obtain ⟨xf0, xf1, xf2, xf3, xf4⟩ := xf.cells
        go_wp2_with fail
        refine (T1.out _).mono ?_
        rintro e W3 ⟨rfl, k3⟩
        replace hB := below_seq hB k3
        replace xf := xf.seq k3
        clear k3
        clear xf0 xf1 xf2 xf3 xf4
        obtain ⟨xf0, xf1, xf2, xf3, xf4⟩ := xf.cells
        go_wp2_with fail
        refine (T2.out _).mono ?_
        rintro e W4 ⟨rfl, k4⟩
        replace hB := below_seq hB k4
        replace xf := xf.seq k4
        clear k4
        clear xf0 xf1 xf2 xf3 xf4
        obtain ⟨xf0, xf1, xf2, xf3, xf4⟩ := xf.cells
        have xa := FlBox.new 25 W4 f
        replace xf := xf.alloc (.cells #[.string f.b0, .string f.b1, .int .i64 f.e0, .int .i64 f.e1, .int .i64 f.lim] 25)
        replace hB := hB.alloc hB.size (.cells #[.string f.b0, .string f.b1, .int .i64 f.e0, .int .i64 f.e1, .int .i64 f.lim] 25)
        clear xf0 xf1 xf2 xf3 xf4
        obtain ⟨xf0, xf1, xf2, xf3, xf4⟩ := xf.cells
        obtain ⟨xa0, xa1, xa2, xa3, xa4⟩ := xa.cells
        go_wp2_with fail
        refine (T1.out _).mono ?_
        rintro e W5 ⟨rfl, k5⟩
        replace hB := below_seq hB k5
        replace xf := xf.seq k5
        replace xa := xa.seq k5
        clear k5
        clear xf0 xf1 xf2 xf3 xf4
        obtain ⟨xf0, xf1, xf2, xf3, xf4⟩ := xf.cells
        clear xa0 xa1 xa2 xa3 xa4
        obtain ⟨xa0, xa1, xa2, xa3, xa4⟩ := xa.cells
        go_wp2
        go_ret
        exact ⟨rfl, hB⟩

theorem own : ownKnob Try.prog.godebug = none := by kernel_rfl

set_option maxRecDepth 100000 in
theorem lifted (os : Os) (started : os.Started) (H : Type) (enc : TypeId × Value → H) :
    ReturnsInHanded {} Try.checked os 7 .any (Rows.flashSeesSpec.pre6 enc Try.prog Try.f7 Rows.flashSeesRow.domain false) (Rows.flashSeesSpec.post enc Try.prog Try.f7 false true false false) := by
  refine returnsInHanded_of_change (C := Try.checked) own started (by kernel_rfl) Try.func7
    (ChangeSpec.witness6 (enc := enc) (C := Try.checked) false ⟨#[], #[.agg #[.string ⟨#[]⟩, .string ⟨#[]⟩, .int .i64 0, .int .i64 0, .int .i64 0], .int .i64 0, .int .i64 0, .string ⟨#[]⟩], []⟩ 8 (by kernel_rfl) (by kernel_rfl) (by kernel_rfl) (by kernel_rfl)) ?_
  intro W base args ds gs before hval hW _ _
  have hW' := hW
  obtain ⟨p, q, hA0, hV, rfl, hfz, hnd⟩ := hW
  have hA : DataW.TrodAll enc Try.prog W 0 (fun _ => true) true Try.f7.params.toList args.toList ds p := hA0
  rw [Try.params7] at hA hval
  obtain ⟨v0, vs0, d0, ds0, p0, q0, hargs, rfl, rfl, h0, r0⟩ := trodAll_cons hA
  obtain ⟨v1, vs1, d1, ds1, p1, q1, rfl, rfl, rfl, h1, r1⟩ := trodAll_cons r0
  obtain ⟨v2, vs2, d2, ds2, p2, q2, rfl, rfl, rfl, h2, r2⟩ := trodAll_cons r1
  obtain ⟨v3, vs3, d3, ds3, p3, q3, rfl, rfl, rfl, h3, r3⟩ := trodAll_cons r2
  obtain ⟨rfl, rfl, rfl⟩ := trodAll_nil r3
  obtain rfl : args = #[v0, v1, v2, v3] := by cases args; simp_all
  obtain ⟨rfl, rfl⟩ := trodVars_none hV
  have k0 := h0
  obtain ⟨s0, rfl, hs0⟩ := open_fl (hval 0 25 v0 rfl rfl) h0
  obtain ⟨a1, rfl, rfl, rfl, w1⟩ := open_int Try.underlying3 (hval 1 3 v1 rfl rfl) h1
  obtain ⟨a2, rfl, rfl, rfl, w2⟩ := open_int Try.underlying3 (hval 2 3 v2 rfl rfl) h2
  obtain ⟨s3, rfl, rfl, rfl, hs3⟩ := open_string Try.underlying9 (hval 3 9 v3 rfl rfl) h3
  clear hA0
  simp only [List.append_nil] at hW'
  refine (walk s0 a1 a2 s3 W hs0 (int_i64 w1) (int_i64 w2) hs3).mono fun e W' ⟨he, hB⟩ => ?_
  subst he
  exact ⟨_, rfl, ⟨_, _, _, [], _, [], hW', trodAll_cons_mk (shut_bool Try.underlying4 _) trodAll_mk0, (trodAll_cons_mk (Below.trod Try.laidOut (by kernel_rfl) (of_decide_eq_true (by kernel_rfl)) k0 hB (fun x hx => by simpa using hW'.lt x (by simp [hx]))) (trodAll_cons_mk (shut_int Try.underlying3 w1) (trodAll_cons_mk (shut_int Try.underlying3 w2) (trodAll_cons_mk (shut_string Try.underlying9 hs3) trodAll_mk0)))), rfl, hB.frame _, fun h => by cases h⟩⟩

theorem holds : Rows.FlashSeesSaid :=
  OpenClaim.holds_of_wide 7 Try.f7 rfl rfl rfl rfl rfl rfl rfl ⟨rfl, rfl, rfl, rfl, rfl⟩ rfl rfl rfl rfl rfl (by kernel_rfl) Try.func7 (by kernel_rfl)
    (of_decide_eq_true (by kernel_rfl)) (by unfold Func.isWrapper; first | (rw [if_pos (by decide +kernel)]; kernel_rfl) | (rw [if_neg (by decide +kernel)]; exact ⟨rfl, rfl⟩))
    (fun os started H enc _ => lifted os started H enc)
end Go.Proofs.Ytoemjfjmpmngeab.FlashSees

/- Bytes that are read in two parts are those that are read at once (FlashParts); no condition. -/
import Derived.Test.YtoemjfjmpmngeabFlashEq
import Derived.Test.YtoemjfjmpmngeabFlashOwn
import Derived.Test.YtoemjfjmpmngeabFlashPlain
import Derived.Test.YtoemjfjmpmngeabFlashOpen
import Derived.ProofKit
import Derived.OpenShut
import Derived.ChangeMaps5
import Derived.Test.YtoemjfjmpmngeabInts
namespace Go.Proofs.Ytoemjfjmpmngeab.FlashParts
open Go.ChangeShapes Go.WideShapes Go.ChangeAt Go.RowKit Go.ChangeMaps
set_option linter.unusedVariables false
attribute [local go_sem] eqS2 eqI2 w64_u8 w64_u8_add

set_option maxRecDepth 100000 in
set_option maxHeartbeats 4000000 in
theorem walk (f : Fl) (bank : Int) (q : UInt8) (n : UInt8) (m : UInt8) (W : World) (hf : f.ok) (hbank : -9223372036854775808 ≤ bank ∧ bank ≤ 9223372036854775807) :
    Calls Try.prog 6 #[.agg #[.string f.b0, .string f.b1, .int .i64 f.e0, .int .i64 f.e1, .int .i64 f.lim], .int .i64 bank, .int .u8 (q.toNat : Int), .int .u8 (n.toNat : Int), .int .u8 (m.toNat : Int)] W fun e W' => e = .returned (.bool true) ∧ Below W.heap.size W W' := by
  by_cases hg : bigB f = true
  · have TB := Lib.hid (fun W => (show Calls Try.prog 15 #[.agg #[.string f.b0, .string f.b1, .int .i64 f.e0, .int .i64 f.e1, .int .i64 f.lim]] W fun e W' => e = .returned (.bool true) ∧ Below W.heap.size W W' from by have h := flBig f W hf; rwa [hg] at h))
    clear hg
    go_enter Try.func6, Try.ntmps6
    have hB : Below W.heap.size W (W.alloc (.cells #[.string f.b0, .string f.b1, .int .i64 f.e0, .int .i64 f.e1, .int .i64 f.lim] 25)) := (Below.refl _ _).alloc (Nat.le_refl _) _
    have xf := FlBox.new 25 W f
    go_wp2_with fail
    refine (TB.out _).mono ?_
    rintro e W1 ⟨rfl, k1⟩
    replace hB := below_seq hB k1
    replace xf := xf.seq k1
    clear k1
    obtain ⟨xf0, xf1, xf2, xf3, xf4⟩ := xf.cells
    go_wp2_with fail
    refine (flShown _).mono ?_
    rintro e W2 ⟨rfl, k2⟩
    replace hB := below_seq hB k2
    replace xf := xf.seq k2
    clear k2
    clear xf0 xf1 xf2 xf3 xf4
    obtain ⟨xf0, xf1, xf2, xf3, xf4⟩ := xf.cells
    go_wp2
    go_ret
    exact ⟨rfl, hB⟩
  · have TB := Lib.hid (fun W => (show Calls Try.prog 15 #[.agg #[.string f.b0, .string f.b1, .int .i64 f.e0, .int .i64 f.e1, .int .i64 f.lim]] W fun e W' => e = .returned (.bool false) ∧ Below W.heap.size W W' from by have h := flBig f W hf; rwa [show bigB f = false from by simpa using hg] at h))
    have hbig := bigB_no (show bigB f = false from by simpa using hg)
    obtain ⟨hz0, hz1⟩ := hbig
    replace hf : f.fit := ⟨hf, by omega, by omega⟩
    clear hg
    have hq8 := q.toNat_lt
    have hn8 := n.toNat_lt
    have hn := Int.natCast_nonneg n.toNat
    have hm := Int.natCast_nonneg m.toNat
    by_cases he : readErr f bank (q.toNat : Int) ((n.toNat : Int) + (m.toNat : Int)) = 0
    · obtain ⟨hg0, hh0⟩ := readErr_parts hn hm he
      have hp := readT_parts hn hm he
      have T10 : ∀ W, Calls Try.prog 23 #[.agg #[.string f.b0, .string f.b1, .int .i64 f.e0, .int .i64 f.e1, .int .i64 f.lim], .int .i64 bank, .int .i64 (q.toNat : Int), .int .i64 ((n.toNat : Int) + (m.toNat : Int))] W fun e W' => e = .returned (.tuple #[.string ((readT f bank (q.toNat : Int) (n.toNat : Int)) ++ (readT f bank ((q.toNat : Int) + (n.toNat : Int)) (m.toNat : Int))), .int .i64 0]) ∧ Below W.heap.size W W' := fun W => by
        have h := flRead f bank (q.toNat : Int) ((n.toNat : Int) + (m.toNat : Int)) W hf; rwa [he, hp] at h
      have T1 := Lib.hid T10
      clear T10
      have T20 : ∀ W, Calls Try.prog 23 #[.agg #[.string f.b0, .string f.b1, .int .i64 f.e0, .int .i64 f.e1, .int .i64 f.lim], .int .i64 bank, .int .i64 (q.toNat : Int), .int .i64 (n.toNat : Int)] W fun e W' => e = .returned (.tuple #[.string (readT f bank (q.toNat : Int) (n.toNat : Int)), .int .i64 0]) ∧ Below W.heap.size W W' := fun W => by
        have h := flRead f bank (q.toNat : Int) (n.toNat : Int) W hf; rwa [hg0] at h
      have T2 := Lib.hid T20
      clear T20
      have T30 : ∀ W, Calls Try.prog 23 #[.agg #[.string f.b0, .string f.b1, .int .i64 f.e0, .int .i64 f.e1, .int .i64 f.lim], .int .i64 bank, .int .i64 ((q.toNat : Int) + (n.toNat : Int)), .int .i64 (m.toNat : Int)] W fun e W' => e = .returned (.tuple #[.string (readT f bank ((q.toNat : Int) + (n.toNat : Int)) (m.toNat : Int)), .int .i64 0]) ∧ Below W.heap.size W W' := fun W => by
        have h := flRead f bank ((q.toNat : Int) + (n.toNat : Int)) (m.toNat : Int) W hf; rwa [hh0] at h
      have T3 := Lib.hid T30
      clear T30
      have z1 := readT_size hg0
      have z2 := readT_size hh0
      have y1 : (readT f bank (q.toNat : Int) (n.toNat : Int)).size ≤ 1000 := by have := n.toNat_lt; omega
      have y2 : (readT f bank ((q.toNat : Int) + (n.toNat : Int)) (m.toNat : Int)).size ≤ 1000 := by have := m.toNat_lt; omega
      clear he hp hg0 hh0 z1 z2
      generalize (readT f bank (q.toNat : Int) (n.toNat : Int)) = r1 at *
      generalize (readT f bank ((q.toNat : Int) + (n.toNat : Int)) (m.toNat : Int)) = r2 at *
      go_enter Try.func6, Try.ntmps6
      have hB : Below W.heap.size W (W.alloc (.cells #[.string f.b0, .string f.b1, .int .i64 f.e0, .int .i64 f.e1, .int .i64 f.lim] 25)) := (Below.refl _ _).alloc (Nat.le_refl _) _
      have xf := FlBox.new 25 W f
      go_wp2_with fail
      refine (TB.out _).mono ?_
      rintro e W1 ⟨rfl, k1⟩
      replace hB := below_seq hB k1
      replace xf := xf.seq k1
      clear k1
      obtain ⟨xf0, xf1, xf2, xf3, xf4⟩ := xf.cells
      go_wp2_with fail
      refine (flShown _).mono ?_
      rintro e W2 ⟨rfl, k2⟩
      replace hB := below_seq hB k2
      replace xf := xf.seq k2
      clear k2
      clear xf0 xf1 xf2 xf3 xf4
      obtain ⟨xf0, xf1, xf2, xf3, xf4⟩ := xf.cells
      go_wp2_with fail
      refine (T1.out _).mono ?_
      rintro e W3 ⟨rfl, k3⟩
      replace hB := below_seq hB k3
      replace xf := xf.seq k3
      clear k3
      clear xf0 xf1 xf2 xf3 xf4
      obtain ⟨xf0, xf1, xf2, xf3, xf4⟩ := xf.cells
      go_wp2_with fail
      refine (T2.out _).mono ?_
      rintro e W4 ⟨rfl, k4⟩
      replace hB := below_seq hB k4
      replace xf := xf.seq k4
      clear k4
      clear xf0 xf1 xf2 xf3 xf4
      obtain ⟨xf0, xf1, xf2, xf3, xf4⟩ := xf.cells
      go_wp2_with fail
      refine (T3.out _).mono ?_
      rintro e W5 ⟨rfl, k5⟩
      replace hB := below_seq hB k5
      replace xf := xf.seq k5
      clear k5
      clear xf0 xf1 xf2 xf3 xf4
      obtain ⟨xf0, xf1, xf2, xf3, xf4⟩ := xf.cells
      go_wp2
      go_ret
      exact ⟨rfl, hB⟩
    · have he0 : readT f bank (q.toNat : Int) ((n.toNat : Int) + (m.toNat : Int)) = ⟨#[]⟩ := readT_none he
      have T10 : ∀ W, Calls Try.prog 23 #[.agg #[.string f.b0, .string f.b1, .int .i64 f.e0, .int .i64 f.e1, .int .i64 f.lim], .int .i64 bank, .int .i64 (q.toNat : Int), .int .i64 ((n.toNat : Int) + (m.toNat : Int))] W fun e W' => e = .returned (.tuple #[.string ⟨#[]⟩, .int .i64 (readErr f bank (q.toNat : Int) ((n.toNat : Int) + (m.toNat : Int)))]) ∧ Below W.heap.size W W' := fun W => by
        have h := flRead f bank (q.toNat : Int) ((n.toNat : Int) + (m.toNat : Int)) W hf; rwa [he0] at h
      have T1 := Lib.hid T10
      clear T10
      have hE : ((readErr f bank (q.toNat : Int) ((n.toNat : Int) + (m.toNat : Int))) != 0) = true := bne_iff_ne.2 he
      have hgh : ¬ readErr f bank (q.toNat : Int) (n.toNat : Int) = 0 ∨ (readErr f bank (q.toNat : Int) (n.toNat : Int) = 0 ∧ ¬ readErr f bank ((q.toNat : Int) + (n.toNat : Int)) (m.toNat : Int) = 0) := by
        by_cases k : readErr f bank (q.toNat : Int) (n.toNat : Int) = 0
        · exact .inr ⟨k, fun k2 => he (readErr_whole hn hm k k2)⟩
        · exact .inl k
      clear he he0
      generalize readErr f bank (q.toNat : Int) ((n.toNat : Int) + (m.toNat : Int)) = E at T1 hE
      rcases hgh with hg1 | ⟨hg1, hh1⟩
      · have hG : ((readErr f bank (q.toNat : Int) (n.toNat : Int)) != 0) = true := bne_iff_ne.2 hg1
        clear hg1
        go_enter Try.func6, Try.ntmps6
        have hB : Below W.heap.size W (W.alloc (.cells #[.string f.b0, .string f.b1, .int .i64 f.e0, .int .i64 f.e1, .int .i64 f.lim] 25)) := (Below.refl _ _).alloc (Nat.le_refl _) _
        have xf := FlBox.new 25 W f
        go_wp2_with fail
        refine (TB.out _).mono ?_
        rintro e W1 ⟨rfl, k1⟩
        replace hB := below_seq hB k1
        replace xf := xf.seq k1
        clear k1
        obtain ⟨xf0, xf1, xf2, xf3, xf4⟩ := xf.cells
        go_wp2_with fail
        refine (flShown _).mono ?_
        rintro e W2 ⟨rfl, k2⟩
        replace hB := below_seq hB k2
        replace xf := xf.seq k2
        clear k2
        clear xf0 xf1 xf2 xf3 xf4
        obtain ⟨xf0, xf1, xf2, xf3, xf4⟩ := xf.cells
        go_wp2_with fail
        refine (T1.out _).mono ?_
        rintro e W3 ⟨rfl, k3⟩
        replace hB := below_seq hB k3
        replace xf := xf.seq k3
        clear k3
        clear xf0 xf1 xf2 xf3 xf4
        obtain ⟨xf0, xf1, xf2, xf3, xf4⟩ := xf.cells
        go_wp2_with fail
        refine (flRead f bank _ _ _ hf).mono ?_
        rintro e W4 ⟨rfl, k4⟩
        replace hB := below_seq hB k4
        replace xf := xf.seq k4
        clear k4
        clear xf0 xf1 xf2 xf3 xf4
        obtain ⟨xf0, xf1, xf2, xf3, xf4⟩ := xf.cells
        go_wp2_with fail
        refine (flRead f bank _ _ _ hf).mono ?_
        rintro e W5 ⟨rfl, k5⟩
        replace hB := below_seq hB k5
        replace xf := xf.seq k5
        clear k5
        clear xf0 xf1 xf2 xf3 xf4
        obtain ⟨xf0, xf1, xf2, xf3, xf4⟩ := xf.cells
        go_wp2
        go_ret
        exact ⟨rfl, hB⟩
      · have hG : ((readErr f bank ((q.toNat : Int) + (n.toNat : Int)) (m.toNat : Int)) != 0) = true := bne_iff_ne.2 hh1
        have T20 : ∀ W, Calls Try.prog 23 #[.agg #[.string f.b0, .string f.b1, .int .i64 f.e0, .int .i64 f.e1, .int .i64 f.lim], .int .i64 bank, .int .i64 (q.toNat : Int), .int .i64 (n.toNat : Int)] W fun e W' => e = .returned (.tuple #[.string (readT f bank (q.toNat : Int) (n.toNat : Int)), .int .i64 0]) ∧ Below W.heap.size W W' := fun W => by
          have h := flRead f bank (q.toNat : Int) (n.toNat : Int) W hf; rwa [hg1] at h
        have T2 := Lib.hid T20
        clear T20
        clear hg1 hh1
        go_enter Try.func6, Try.ntmps6
        have hB : Below W.heap.size W (W.alloc (.cells #[.string f.b0, .string f.b1, .int .i64 f.e0, .int .i64 f.e1, .int .i64 f.lim] 25)) := (Below.refl _ _).alloc (Nat.le_refl _) _
        have xf := FlBox.new 25 W f
        go_wp2_with fail
        refine (TB.out _).mono ?_
        rintro e W1 ⟨rfl, k1⟩
        replace hB := below_seq hB k1
        replace xf := xf.seq k1
        clear k1
        obtain ⟨xf0, xf1, xf2, xf3, xf4⟩ := xf.cells
        go_wp2_with fail
        refine (flShown _).mono ?_
        rintro e W2 ⟨rfl, k2⟩
        replace hB := below_seq hB k2
        replace xf := xf.seq k2
        clear k2
        clear xf0 xf1 xf2 xf3 xf4
        obtain ⟨xf0, xf1, xf2, xf3, xf4⟩ := xf.cells
        go_wp2_with fail
        refine (T1.out _).mono ?_
        rintro e W3 ⟨rfl, k3⟩
        replace hB := below_seq hB k3
        replace xf := xf.seq k3
        clear k3
        clear xf0 xf1 xf2 xf3 xf4
        obtain ⟨xf0, xf1, xf2, xf3, xf4⟩ := xf.cells
        go_wp2_with fail
        refine (T2.out _).mono ?_
        rintro e W4 ⟨rfl, k4⟩
        replace hB := below_seq hB k4
        replace xf := xf.seq k4
        clear k4
        clear xf0 xf1 xf2 xf3 xf4
        obtain ⟨xf0, xf1, xf2, xf3, xf4⟩ := xf.cells
        go_wp2_with fail
        refine (flRead f bank _ _ _ hf).mono ?_
        rintro e W5 ⟨rfl, k5⟩
        replace hB := below_seq hB k5
        replace xf := xf.seq k5
        clear k5
        clear xf0 xf1 xf2 xf3 xf4
        obtain ⟨xf0, xf1, xf2, xf3, xf4⟩ := xf.cells
        go_wp2
        go_ret
        exact ⟨rfl, hB⟩

theorem own : ownKnob Try.prog.godebug = none := by kernel_rfl

set_option maxRecDepth 100000 in
theorem lifted (os : Os) (started : os.Started) (H : Type) (enc : TypeId × Value → H) :
    ReturnsInHanded {} Try.checked os 6 .any (Rows.flashPartsSpec.pre6 enc Try.prog Try.f6 Rows.flashPartsRow.domain false) (Rows.flashPartsSpec.post enc Try.prog Try.f6 false true false false) := by
  refine returnsInHanded_of_change (C := Try.checked) own started (by kernel_rfl) Try.func6
    (ChangeSpec.witness6 (enc := enc) (C := Try.checked) false ⟨#[], #[.agg #[.string ⟨#[]⟩, .string ⟨#[]⟩, .int .i64 0, .int .i64 0, .int .i64 0], .int .i64 0, .int .u8 0, .int .u8 0, .int .u8 0], []⟩ 8 (by kernel_rfl) (by kernel_rfl) (by kernel_rfl) (by kernel_rfl)) ?_
  intro W base args ds gs before hval hW _ _
  have hW' := hW
  obtain ⟨p, q, hA0, hV, rfl, hfz, hnd⟩ := hW
  have hA : DataW.TrodAll enc Try.prog W 0 (fun _ => true) true Try.f6.params.toList args.toList ds p := hA0
  rw [Try.params6] at hA hval
  obtain ⟨v0, vs0, d0, ds0, p0, q0, hargs, rfl, rfl, h0, r0⟩ := trodAll_cons hA
  obtain ⟨v1, vs1, d1, ds1, p1, q1, rfl, rfl, rfl, h1, r1⟩ := trodAll_cons r0
  obtain ⟨v2, vs2, d2, ds2, p2, q2, rfl, rfl, rfl, h2, r2⟩ := trodAll_cons r1
  obtain ⟨v3, vs3, d3, ds3, p3, q3, rfl, rfl, rfl, h3, r3⟩ := trodAll_cons r2
  obtain ⟨v4, vs4, d4, ds4, p4, q4, rfl, rfl, rfl, h4, r4⟩ := trodAll_cons r3
  obtain ⟨rfl, rfl, rfl⟩ := trodAll_nil r4
  obtain rfl : args = #[v0, v1, v2, v3, v4] := by cases args; simp_all
  obtain ⟨rfl, rfl⟩ := trodVars_none hV
  have k0 := h0
  obtain ⟨s0, rfl, hs0⟩ := open_fl (hval 0 25 v0 rfl rfl) h0
  obtain ⟨a1, rfl, rfl, rfl, w1⟩ := open_int Try.underlying3 (hval 1 3 v1 rfl rfl) h1
  obtain ⟨a2, rfl, rfl, rfl, w2⟩ := open_int Try.underlying5 (hval 2 5 v2 rfl rfl) h2
  obtain ⟨c2, rfl⟩ := int_u8 w2
  obtain ⟨a3, rfl, rfl, rfl, w3⟩ := open_int Try.underlying5 (hval 3 5 v3 rfl rfl) h3
  obtain ⟨c3, rfl⟩ := int_u8 w3
  obtain ⟨a4, rfl, rfl, rfl, w4⟩ := open_int Try.underlying5 (hval 4 5 v4 rfl rfl) h4
  obtain ⟨c4, rfl⟩ := int_u8 w4
  clear hA0
  simp only [List.append_nil] at hW'
  refine (walk s0 a1 c2 c3 c4 W hs0 (int_i64 w1)).mono fun e W' ⟨he, hB⟩ => ?_
  subst he
  exact ⟨_, rfl, ⟨_, _, _, [], _, [], hW', trodAll_cons_mk (shut_bool Try.underlying4 _) trodAll_mk0, (trodAll_cons_mk (Below.trod Try.laidOut (by kernel_rfl) (of_decide_eq_true (by kernel_rfl)) k0 hB (fun x hx => by simpa using hW'.lt x (by simp [hx]))) (trodAll_cons_mk (shut_int Try.underlying3 w1) (trodAll_cons_mk (shut_int Try.underlying5 w2) (trodAll_cons_mk (shut_int Try.underlying5 w3) (trodAll_cons_mk (shut_int Try.underlying5 w4) trodAll_mk0))))), rfl, hB.frame _, fun h => by cases h⟩⟩

theorem holds : Rows.FlashPartsSaid :=
  OpenClaim.holds_of_wide 6 Try.f6 rfl rfl rfl rfl rfl rfl rfl ⟨rfl, rfl, rfl, rfl, rfl⟩ rfl rfl rfl rfl rfl (by kernel_rfl) Try.func6 (by kernel_rfl)
    (of_decide_eq_true (by kernel_rfl)) (by unfold Func.isWrapper; first | (rw [if_pos (by decide +kernel)]; kernel_rfl) | (rw [if_neg (by decide +kernel)]; exact ⟨rfl, rfl⟩))
    (fun os started H enc _ => lifted os started H enc)
end Go.Proofs.Ytoemjfjmpmngeab.FlashParts

/- Of a program that is torn some bits come that might; of an erase each byte is what it was, or blank; all else stays (PowerTears); no condition. -/
import Derived.Test.YtoemjfjmpmngeabPTears11
import Derived.Test.YtoemjfjmpmngeabPTears20
import Derived.Test.YtoemjfjmpmngeabPTears21
import Derived.ProofKit
import Derived.OpenShut
import Derived.ChangeMaps5
import Derived.Test.YtoemjfjmpmngeabInts
namespace Go.Proofs.Ytoemjfjmpmngeab.PowerTears
open Go.ChangeShapes Go.WideShapes Go.ChangeAt Go.RowKit Go.ChangeMaps
set_option linter.unusedVariables false
attribute [local go_sem] eqS2 eqI2 eqS2t eqI2t

set_option maxRecDepth 100000 in
set_option maxHeartbeats 8000000 in
theorem walk (f : Fl) (o : PwOp) (m : ByteArray) (W : World) (hf : f.ok) (ho : o.ok) (hm : m.size ≤ maxLen) :
    Calls Try.prog 8 #[.agg #[.string f.b0, .string f.b1, .int .i64 f.e0, .int .i64 f.e1, .int .i64 f.lim], .agg #[.int .i64 o.kind, .int .i64 o.bank, .int .i64 o.q, .string o.d], .string m] W fun e W' => e = .returned (.bool true) ∧ Below W.heap.size W W' := by
  by_cases hg : bigB4 f [o] m = true
  · have TB := Lib.hid (fun (V : World) (h : OpsAt V (some ⟨W.heap.size + 1 + 1, 0, none⟩) [o]) => (show Calls Try.prog 25 #[.agg #[.string f.b0, .string f.b1, .int .i64 f.e0, .int .i64 f.e1, .int .i64 f.lim], .slice (some ⟨W.heap.size + 1 + 1, 0, none⟩) 1 1, .string m] V fun e W' => e = .returned (.bool true) ∧ Below V.heap.size V W' from by have k := big04 f [o] (some ⟨W.heap.size + 1 + 1, 0, none⟩) 1 m V hf (fun o' ho' => by rw [List.mem_singleton.1 ho']; exact ho) h hm ⟨Nat.le_refl _, by unfold maxLen; decide⟩; rwa [hg] at k))
    clear hg
    have hB : Below W.heap.size W (((W.alloc (.cells #[.string f.b0, .string f.b1, .int .i64 f.e0, .int .i64 f.e1, .int .i64 f.lim] 25)).alloc (.cells #[.int .i64 o.kind, .int .i64 o.bank, .int .i64 o.q, .string o.d] 43)).alloc (.cells #[.int .i64 o.kind, .int .i64 o.bank, .int .i64 o.q, .string o.d] 43)) := (((Below.refl _ _).alloc (Nat.le_refl _) _).alloc (by simp) _).alloc (by simp; omega) _
    have xf := ((Box.new 25 W [.string f.b0, .string f.b1, .int .i64 f.e0, .int .i64 f.e1, .int .i64 f.lim]).alloc (.cells #[.int .i64 o.kind, .int .i64 o.bank, .int .i64 o.q, .string o.d] 43)).alloc (.cells #[.int .i64 o.kind, .int .i64 o.bank, .int .i64 o.q, .string o.d] 43)
    have xo : Box 43 (((W.alloc (.cells #[.string f.b0, .string f.b1, .int .i64 f.e0, .int .i64 f.e1, .int .i64 f.lim] 25)).alloc (.cells #[.int .i64 o.kind, .int .i64 o.bank, .int .i64 o.q, .string o.d] 43)).alloc (.cells #[.int .i64 o.kind, .int .i64 o.bank, .int .i64 o.q, .string o.d] 43)) (W.heap.size + 1) [.int .i64 o.kind, .int .i64 o.bank, .int .i64 o.q, .string o.d] := by have h := (Box.new 43 (W.alloc (.cells #[.string f.b0, .string f.b1, .int .i64 f.e0, .int .i64 f.e1, .int .i64 f.lim] 25)) [.int .i64 o.kind, .int .i64 o.bank, .int .i64 o.q, .string o.d]).alloc (.cells #[.int .i64 o.kind, .int .i64 o.bank, .int .i64 o.q, .string o.d] 43); rwa [World.size_alloc] at h
    have hl : OpsAt (((W.alloc (.cells #[.string f.b0, .string f.b1, .int .i64 f.e0, .int .i64 f.e1, .int .i64 f.lim] 25)).alloc (.cells #[.int .i64 o.kind, .int .i64 o.bank, .int .i64 o.q, .string o.d] 43)).alloc (.cells #[.int .i64 o.kind, .int .i64 o.bank, .int .i64 o.q, .string o.d] 43)) (some ⟨W.heap.size + 1 + 1, 0, none⟩) [o] := by have h := OpsAt.one ((W.alloc (.cells #[.string f.b0, .string f.b1, .int .i64 f.e0, .int .i64 f.e1, .int .i64 f.lim] 25)).alloc (.cells #[.int .i64 o.kind, .int .i64 o.bank, .int .i64 o.q, .string o.d] 43)) 43 o; rwa [World.size_alloc, World.size_alloc] at h
    go_enter Try.func8, Try.ntmps8
    go_wp2_with fail
    refine (TB.out _ hl).mono ?_
    rintro e W1 ⟨rfl, k1⟩
    replace hB := below_seq hB k1
    replace xf := xf.seq k1
    replace xo := xo.seq k1
    clear k1
    have xf0 := xf.cell 0 rfl
    have xf1 := xf.cell 1 rfl
    have xf2 := xf.cell 2 rfl
    have xf3 := xf.cell 3 rfl
    have xf4 := xf.cell 4 rfl
    have xo0 := xo.cell 0 rfl
    have xo1 := xo.cell 1 rfl
    have xo2 := xo.cell 2 rfl
    have xo3 := xo.cell 3 rfl
    clear hl
    go_wp2_with fail
    refine (shown04 _).mono ?_
    rintro e W2 ⟨rfl, k2⟩
    replace hB := below_seq hB k2
    replace xf := xf.seq k2
    replace xo := xo.seq k2
    clear k2
    clear xf0 xf1 xf2 xf3 xf4
    have xf0 := xf.cell 0 rfl
    have xf1 := xf.cell 1 rfl
    have xf2 := xf.cell 2 rfl
    have xf3 := xf.cell 3 rfl
    have xf4 := xf.cell 4 rfl
    clear xo0 xo1 xo2 xo3
    have xo0 := xo.cell 0 rfl
    have xo1 := xo.cell 1 rfl
    have xo2 := xo.cell 2 rfl
    have xo3 := xo.cell 3 rfl
    go_wp2
    go_ret
    exact ⟨rfl, hB⟩
  · replace hg : bigB4 f [o] m = false := by simpa using hg
    have TB := Lib.hid (fun (V : World) (h : OpsAt V (some ⟨W.heap.size + 1 + 1, 0, none⟩) [o]) => (show Calls Try.prog 25 #[.agg #[.string f.b0, .string f.b1, .int .i64 f.e0, .int .i64 f.e1, .int .i64 f.lim], .slice (some ⟨W.heap.size + 1 + 1, 0, none⟩) 1 1, .string m] V fun e W' => e = .returned (.bool false) ∧ Below V.heap.size V W' from by have k := big04 f [o] (some ⟨W.heap.size + 1 + 1, 0, none⟩) 1 m V hf (fun o' ho' => by rw [List.mem_singleton.1 ho']; exact ho) h hm ⟨Nat.le_refl _, by unfold maxLen; decide⟩; rwa [hg] at k))
    obtain ⟨hz0, hz1, hzo, hzm⟩ := bigB4_no hg
    have hfit : f.fit := ⟨hf, by omega, by omega⟩
    clear hg
    by_cases he : doErr f o = 0
    · obtain ⟨hb, hk⟩ := doErr_bank he
      have hg : bigB4 f [o] m = false := by unfold bigB4; simp; omega
      obtain ⟨k, b, q, d⟩ := o
      dsimp only at hb hk ⊢
      rcases hk with rfl | rfl <;> rcases hb with rfl | rfl
      · exact tears_1_0 f q d m W hf ho hm hg he
      · exact tears_1_1 f q d m W hf ho hm hg he
      · exact tears_2_0 f q d m W hf ho hm hg he
      · exact tears_2_1 f q d m W hf ho hm hg he
    · have e1 := tearF_err (m := m) he
      have T1 := Lib.hid (fun (W : World) => (show Calls Try.prog 27 #[.agg #[.string f.b0, .string f.b1, .int .i64 f.e0, .int .i64 f.e1, .int .i64 f.lim], .agg #[.int .i64 o.kind, .int .i64 o.bank, .int .i64 o.q, .string o.d], .string m] W fun e W' => e = .returned (.tuple #[.agg #[.string f.b0, .string f.b1, .int .i64 f.e0, .int .i64 f.e1, .int .i64 f.lim], .int .i64 (doErr f o)]) ∧ Below W.heap.size W W' from by have h := own04Tear f o m W hfit ho hm; rwa [e1] at h))
      have n1 : (doErr f o != 0) = true := bne_iff_ne.2 he
      clear e1 he
      generalize doErr f o = g at *
      have hB : Below W.heap.size W (((W.alloc (.cells #[.string f.b0, .string f.b1, .int .i64 f.e0, .int .i64 f.e1, .int .i64 f.lim] 25)).alloc (.cells #[.int .i64 o.kind, .int .i64 o.bank, .int .i64 o.q, .string o.d] 43)).alloc (.cells #[.int .i64 o.kind, .int .i64 o.bank, .int .i64 o.q, .string o.d] 43)) := (((Below.refl _ _).alloc (Nat.le_refl _) _).alloc (by simp) _).alloc (by simp; omega) _
      have xf := ((Box.new 25 W [.string f.b0, .string f.b1, .int .i64 f.e0, .int .i64 f.e1, .int .i64 f.lim]).alloc (.cells #[.int .i64 o.kind, .int .i64 o.bank, .int .i64 o.q, .string o.d] 43)).alloc (.cells #[.int .i64 o.kind, .int .i64 o.bank, .int .i64 o.q, .string o.d] 43)
      have xo : Box 43 (((W.alloc (.cells #[.string f.b0, .string f.b1, .int .i64 f.e0, .int .i64 f.e1, .int .i64 f.lim] 25)).alloc (.cells #[.int .i64 o.kind, .int .i64 o.bank, .int .i64 o.q, .string o.d] 43)).alloc (.cells #[.int .i64 o.kind, .int .i64 o.bank, .int .i64 o.q, .string o.d] 43)) (W.heap.size + 1) [.int .i64 o.kind, .int .i64 o.bank, .int .i64 o.q, .string o.d] := by have h := (Box.new 43 (W.alloc (.cells #[.string f.b0, .string f.b1, .int .i64 f.e0, .int .i64 f.e1, .int .i64 f.lim] 25)) [.int .i64 o.kind, .int .i64 o.bank, .int .i64 o.q, .string o.d]).alloc (.cells #[.int .i64 o.kind, .int .i64 o.bank, .int .i64 o.q, .string o.d] 43); rwa [World.size_alloc] at h
      have hl : OpsAt (((W.alloc (.cells #[.string f.b0, .string f.b1, .int .i64 f.e0, .int .i64 f.e1, .int .i64 f.lim] 25)).alloc (.cells #[.int .i64 o.kind, .int .i64 o.bank, .int .i64 o.q, .string o.d] 43)).alloc (.cells #[.int .i64 o.kind, .int .i64 o.bank, .int .i64 o.q, .string o.d] 43)) (some ⟨W.heap.size + 1 + 1, 0, none⟩) [o] := by have h := OpsAt.one ((W.alloc (.cells #[.string f.b0, .string f.b1, .int .i64 f.e0, .int .i64 f.e1, .int .i64 f.lim] 25)).alloc (.cells #[.int .i64 o.kind, .int .i64 o.bank, .int .i64 o.q, .string o.d] 43)) 43 o; rwa [World.size_alloc, World.size_alloc] at h
      go_enter Try.func8, Try.ntmps8
      go_wp2_with fail
      refine (TB.out _ hl).mono ?_
      rintro e W1 ⟨rfl, k1⟩
      replace hB := below_seq hB k1
      replace xf := xf.seq k1
      replace xo := xo.seq k1
      clear k1
      have xf0 := xf.cell 0 rfl
      have xf1 := xf.cell 1 rfl
      have xf2 := xf.cell 2 rfl
      have xf3 := xf.cell 3 rfl
      have xf4 := xf.cell 4 rfl
      have xo0 := xo.cell 0 rfl
      have xo1 := xo.cell 1 rfl
      have xo2 := xo.cell 2 rfl
      have xo3 := xo.cell 3 rfl
      clear hl
      go_wp2_with fail
      refine (shown04 _).mono ?_
      rintro e W2 ⟨rfl, k2⟩
      replace hB := below_seq hB k2
      replace xf := xf.seq k2
      replace xo := xo.seq k2
      clear k2
      clear xf0 xf1 xf2 xf3 xf4
      have xf0 := xf.cell 0 rfl
      have xf1 := xf.cell 1 rfl
      have xf2 := xf.cell 2 rfl
      have xf3 := xf.cell 3 rfl
      have xf4 := xf.cell 4 rfl
      clear xo0 xo1 xo2 xo3
      have xo0 := xo.cell 0 rfl
      have xo1 := xo.cell 1 rfl
      have xo2 := xo.cell 2 rfl
      have xo3 := xo.cell 3 rfl
      go_wp2_with fail
      refine (T1.out _).mono ?_
      rintro e W3 ⟨rfl, k3⟩
      replace hB := below_seq hB k3
      replace xf := xf.seq k3
      replace xo := xo.seq k3
      clear k3
      clear xf0 xf1 xf2 xf3 xf4
      have xf0 := xf.cell 0 rfl
      have xf1 := xf.cell 1 rfl
      have xf2 := xf.cell 2 rfl
      have xf3 := xf.cell 3 rfl
      have xf4 := xf.cell 4 rfl
      clear xo0 xo1 xo2 xo3
      have xo0 := xo.cell 0 rfl
      have xo1 := xo.cell 1 rfl
      have xo2 := xo.cell 2 rfl
      have xo3 := xo.cell 3 rfl
      have xa := Box.new 25 W3 [.string f.b0, .string f.b1, .int .i64 f.e0, .int .i64 f.e1, .int .i64 f.lim]
      replace xf := xf.alloc (.cells #[.string f.b0, .string f.b1, .int .i64 f.e0, .int .i64 f.e1, .int .i64 f.lim] 25)
      replace xo := xo.alloc (.cells #[.string f.b0, .string f.b1, .int .i64 f.e0, .int .i64 f.e1, .int .i64 f.lim] 25)
      replace hB := hB.alloc hB.size (.cells #[.string f.b0, .string f.b1, .int .i64 f.e0, .int .i64 f.e1, .int .i64 f.lim] 25)
      clear xf0 xf1 xf2 xf3 xf4
      have xf0 := xf.cell 0 rfl
      have xf1 := xf.cell 1 rfl
      have xf2 := xf.cell 2 rfl
      have xf3 := xf.cell 3 rfl
      have xf4 := xf.cell 4 rfl
      clear xo0 xo1 xo2 xo3
      have xo0 := xo.cell 0 rfl
      have xo1 := xo.cell 1 rfl
      have xo2 := xo.cell 2 rfl
      have xo3 := xo.cell 3 rfl
      have xa0 := xa.cell 0 rfl
      have xa1 := xa.cell 1 rfl
      have xa2 := xa.cell 2 rfl
      have xa3 := xa.cell 3 rfl
      have xa4 := xa.cell 4 rfl
      go_wp2
      go_ret
      exact ⟨rfl, hB⟩

theorem own : ownKnob Try.prog.godebug = none := by kernel_rfl

set_option maxRecDepth 100000 in
theorem lifted (os : Os) (started : os.Started) (H : Type) (enc : TypeId × Value → H) :
    ReturnsInHanded {} Try.checked os 8 .any (Rows.powerTearsSpec.pre6 enc Try.prog Try.f8 Rows.powerTearsRow.domain false) (Rows.powerTearsSpec.post enc Try.prog Try.f8 false true false false) := by
  refine returnsInHanded_of_change (C := Try.checked) own started (by kernel_rfl) Try.func8
    (ChangeSpec.witness6 (enc := enc) (C := Try.checked) false ⟨#[], #[.agg #[.string ⟨#[]⟩, .string ⟨#[]⟩, .int .i64 0, .int .i64 0, .int .i64 0], .agg #[.int .i64 0, .int .i64 0, .int .i64 0, .string ⟨#[]⟩], .string ⟨#[]⟩], []⟩ 8 (by kernel_rfl) (by kernel_rfl) (by kernel_rfl) (by kernel_rfl)) ?_
  intro W base args ds gs before hval hW _ _
  have hW' := hW
  obtain ⟨p, q, hA0, hV, rfl, hfz, hnd⟩ := hW
  have hA : DataW.TrodAll enc Try.prog W 0 (fun _ => true) true Try.f8.params.toList args.toList ds p := hA0
  rw [Try.params8] at hA hval
  obtain ⟨v0, vs0, d0, ds0, p0, q0, hargs, rfl, rfl, h0, r0⟩ := trodAll_cons hA
  obtain ⟨v1, vs1, d1, ds1, p1, q1, rfl, rfl, rfl, h1, r1⟩ := trodAll_cons r0
  obtain ⟨v2, vs2, d2, ds2, p2, q2, rfl, rfl, rfl, h2, r2⟩ := trodAll_cons r1
  obtain ⟨rfl, rfl, rfl⟩ := trodAll_nil r2
  obtain rfl : args = #[v0, v1, v2] := by cases args; simp_all
  obtain ⟨rfl, rfl⟩ := trodVars_none hV
  have k0 := h0
  obtain ⟨s0, rfl, hs0⟩ := open_fl (hval 0 25 v0 rfl rfl) h0
  have k1 := h1
  obtain ⟨s1, rfl, hs1⟩ := open_op (hval 1 43 v1 rfl rfl) h1
  obtain ⟨s2, rfl, rfl, rfl, hs2⟩ := open_string Try.underlying9 (hval 2 9 v2 rfl rfl) h2
  clear hA0
  simp only [List.append_nil] at hW'
  refine (walk s0 s1 s2 W hs0 hs1 hs2).mono fun e W' ⟨he, hB⟩ => ?_
  subst he
  exact ⟨_, rfl, ⟨_, _, _, [], _, [], hW', trodAll_cons_mk (shut_bool Try.underlying4 _) trodAll_mk0, (trodAll_cons_mk (Below.trod Try.laidOut (by kernel_rfl) (of_decide_eq_true (by kernel_rfl)) k0 hB (fun x hx => by simpa using hW'.lt x (by simp [hx]))) (trodAll_cons_mk (Below.trod Try.laidOut (by kernel_rfl) (of_decide_eq_true (by kernel_rfl)) k1 hB (fun x hx => by simpa using hW'.lt x (by simp [hx]))) (trodAll_cons_mk (shut_string Try.underlying9 hs2) trodAll_mk0))), rfl, hB.frame _, fun h => by cases h⟩⟩

theorem holds : Rows.PowerTearsSaid :=
  OpenClaim.holds_of_wide 8 Try.f8 rfl rfl rfl rfl rfl rfl rfl ⟨rfl, rfl, rfl, rfl, rfl⟩ rfl rfl rfl rfl rfl (by kernel_rfl) Try.func8 (by kernel_rfl)
    (of_decide_eq_true (by kernel_rfl)) (by unfold Func.isWrapper; first | (rw [if_pos (by decide +kernel)]; kernel_rfl) | (rw [if_neg (by decide +kernel)]; exact ⟨rfl, rfl⟩))
    (fun os started H enc _ => lifted os started H enc)
end Go.Proofs.Ytoemjfjmpmngeab.PowerTears

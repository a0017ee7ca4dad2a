/- What is written changes no plan but in the bytes that say it (PlanAlike); no condition. -/
import Derived.Test.YtiacdcnpkfpjaaaGreatPlanLaw
import Derived.Deep.RegionHeld3
import Derived.WalkLawsBesides
import Derived.WalkSpells
import Derived.IntWalk
import Derived.Lib.Hide
import Derived.Test.YtiacdcnpkfpjaaaGreatBox
import Derived.ProofKit
import Derived.OpenShut
import Derived.ChangeMaps5
import Derived.Test.YtiacdcnpkfpjaaaGreatInts
namespace Go.Proofs.YtiacdcnpkfpjaaaGreat.PlanAlike
open Go.ChangeShapes Go.WideShapes Go.ChangeAt Go.RowKit Go.ChangeMaps
set_option linter.unusedVariables false
set_option linter.unusedSimpArgs false

set_option maxRecDepth 100000 in
set_option maxHeartbeats 16000000 in
theorem walk (f : Fl) (a : BitVec 64) (b : BitVec 64) (W : World) (hf : f.ok) :
    Calls Tryz.prog 5 #[.agg #[.string f.b0, .string f.b1, .int .i64 f.e0, .int .i64 f.e1, .int .i64 f.lim], .int .u64 (a.toNat : Int), .int .u64 (b.toNat : Int)] W fun e W' => e = .returned (.bool true) ∧ Below W.heap.size W W' := by
  by_cases hbig : big11 f = true
  · have TBg := Lib.hid (fun (V : World) => (show Calls Tryz.prog 6 #[.agg #[.string f.b0, .string f.b1, .int .i64 f.e0, .int .i64 f.e1, .int .i64 f.lim]] V fun e W' => e = .returned (.bool true) ∧ Below V.heap.size V W' from by have h := law11Big f V; rwa [hbig] at h))
    clear hbig
    have hB : Below W.heap.size W (W.alloc (.cells #[.string f.b0, .string f.b1, .int .i64 f.e0, .int .i64 f.e1, .int .i64 f.lim] 25)) := ((Below.refl _ _).alloc (Nat.le_refl _) _)
    have xf := (Box.new 25 W [.string f.b0, .string f.b1, .int .i64 f.e0, .int .i64 f.e1, .int .i64 f.lim])
    go_enter Tryz.func5, Tryz.ntmps5
    have cxf := xf.f5
    go_wp2_with fail
    refine (TBg.out _).mono ?_
    rintro e V1 ⟨rfl, hk⟩
    clear cxf
    replace hB := below_seq hB hk
    replace xf := xf.seq hk
    clear hk
    have cxf := xf.f5
    go_wp2_with fail
    refine (shown11 _).mono ?_
    rintro e V2 ⟨rfl, hk⟩
    clear cxf
    replace hB := below_seq hB hk
    replace xf := xf.seq hk
    clear hk
    have cxf := xf.f5
    go_wp2
    go_ret
    exact ⟨rfl, hB⟩
  · have hbig2 : big11 f = false := by cases h : big11 f with | false => rfl | true => exact absurd h hbig
    have TBg := Lib.hid (fun (V : World) => (show Calls Tryz.prog 6 #[.agg #[.string f.b0, .string f.b1, .int .i64 f.e0, .int .i64 f.e1, .int .i64 f.lim]] V fun e W' => e = .returned (.bool false) ∧ Below V.heap.size V W' from by have h := law11Big f V; rwa [hbig2] at h))
    obtain ⟨z0, z1⟩ := big11_no hbig2
    clear hbig hbig2
    have hfit := fit_400 hf z0 z1
    clear z0 z1
    have hal := plan_alike f a.toNat b.toNat
    obtain ⟨l, E, HP⟩ : ∃ l E, planR f a.toNat = (l, E) := ⟨_, _, rfl⟩
    obtain ⟨m, E2, HP2⟩ : ∃ l E, planR f b.toNat = (l, E) := ⟨_, _, rfl⟩
    have hle := plan_len_le f a.toNat
    rw [HP] at hal hle
    rw [HP2] at hal
    dsimp only at hal hle
    obtain ⟨rfl, hkey⟩ := hal
    have hlm : m.length = l.length := by have h := congrArg List.length hkey; simp only [List.length_map] at h; exact h.symm
    have TP := Lib.hid (fun (V : World) => (show Calls Tryz.prog 8 #[.agg #[.string f.b0, .string f.b1, .int .i64 f.e0, .int .i64 f.e1, .int .i64 f.lim], .int .u64 (a.toNat : Int)] V fun e W' => ∃ (A : Option Addr) (c : Nat), e = .returned (.tuple #[.slice A l.length c, .int .i64 E]) ∧ OpsAt W' A l ∧ (l.length ≤ c ∧ c ≤ maxLen) ∧ Below V.heap.size V W' from by have h := own11Plan f a.toNat V hf a.isLt; rw [HP] at h; exact h))
    have TQ := Lib.hid (fun (V : World) => (show Calls Tryz.prog 8 #[.agg #[.string f.b0, .string f.b1, .int .i64 f.e0, .int .i64 f.e1, .int .i64 f.lim], .int .u64 (b.toNat : Int)] V fun e W' => ∃ (A : Option Addr) (c : Nat), e = .returned (.tuple #[.slice A l.length c, .int .i64 E]) ∧ OpsAt W' A m ∧ (l.length ≤ c ∧ c ≤ maxLen) ∧ Below V.heap.size V W' from by have h := own11Plan f b.toNat V hf b.isLt; rw [HP2] at h; dsimp only at h; rw [hlm] at h; exact h))
    have HK := Lib.hid (fun (k : Nat) (h : k < l.length) => (show ∃ x y, l[k]? = some x ∧ m[k]? = some y ∧ opKey x = opKey y from by
      refine ⟨l[k], m[k]'(by omega), List.getElem?_eq_getElem h, List.getElem?_eq_getElem (by omega), ?_⟩
      have h2 : (l.map opKey)[k]? = (m.map opKey)[k]? := by rw [hkey]
      rw [List.getElem?_map, List.getElem?_map, List.getElem?_eq_getElem h, List.getElem?_eq_getElem (by omega)] at h2
      exact Option.some.inj h2))
    clear HP HP2 hkey hlm hfit
    have n6 : ¬ (l.length : Int) > 6 := by omega
    have hB : Below W.heap.size W (W.alloc (.cells #[.string f.b0, .string f.b1, .int .i64 f.e0, .int .i64 f.e1, .int .i64 f.lim] 25)) := ((Below.refl _ _).alloc (Nat.le_refl _) _)
    have xf := (Box.new 25 W [.string f.b0, .string f.b1, .int .i64 f.e0, .int .i64 f.e1, .int .i64 f.lim])
    go_enter Tryz.func5, Tryz.ntmps5
    have cxf := xf.f5
    go_wp2_with fail
    refine (TBg.out _).mono ?_
    rintro e V1 ⟨rfl, hk⟩
    clear cxf
    replace hB := below_seq hB hk
    replace xf := xf.seq hk
    clear hk
    have cxf := xf.f5
    go_wp2_with fail
    refine (shown11 _).mono ?_
    rintro e V2 ⟨rfl, hk⟩
    clear cxf
    replace hB := below_seq hB hk
    replace xf := xf.seq hk
    clear hk
    have cxf := xf.f5
    go_wp2_with fail
    refine (TP.out _).mono ?_
    rintro e V3 ⟨A, c, rfl, hl, hc, hk⟩
    clear cxf
    replace hB := below_seq hB hk
    replace xf := xf.seq hk
    clear hk
    have cxf := xf.f5
    go_wp2_with fail
    refine (TQ.out _).mono ?_
    rintro e V4 ⟨B, d, rfl, hm, hd, hk⟩
    clear cxf
    replace hB := below_seq hB hk
    replace xf := xf.seq hk
    replace hl := hl.seq hk
    clear hk
    have cxf := xf.f5
    go_wp2
    clear cxf
    go_loopw [11] (fun i w => ∃ k : Nat, k ≤ l.length ∧ i = .int .i64 k ∧ OpsAt w A l ∧ OpsAt w B m ∧ Below W.heap.size W w) (fun i _ => l.length - (intOf i).toNat)
    case atStart => exact ⟨0, Nat.zero_le _, rfl, hl, hm, hB⟩
    case round =>
      clear xf hl hm hB
      obtain ⟨k, hk, rfl, hl, hm, hB⟩ := hrel
      by_cases hlt : k < l.length
      · obtain ⟨x, y, hx, hy, hxy⟩ := HK.out k hlt
        obtain ⟨gx, ox, rfl, hgx, hcx⟩ := hl (by omega)
        obtain ⟨gy, oy, rfl, hgy, hcy⟩ := hm (by have := (List.getElem?_eq_some_iff.1 hy).1; omega)
        obtain ⟨x0, x1, x2, x3⟩ := hcx k x hx
        obtain ⟨y0, y1, y2, y3⟩ := hcy k y hy
        unfold opKey at hxy
        simp only [Prod.mk.injEq] at hxy
        obtain ⟨e0, e1, e2, e3⟩ := hxy
        have f0 : (x.kind != y.kind) = false := by rw [e0]; simp
        have f1 : (x.bank != y.bank) = false := by rw [e1]; simp
        have f2 : (x.q != y.q) = false := by rw [e2]; simp
        have f3 : ((x.d.size : Int) != (y.d.size : Int)) = false := by rw [e3]; simp
        have j0 : (0 : Int) ≤ (k : Int) := by omega
        have j1 : (k : Int) < (l.length : Int) := by omega
        replace hcx := Lib.hid hcx
        replace hcy := Lib.hid hcy
        clear e0 e1 e2 e3 hx hy HK
        go_wp2_with fail
        go_quiet (fail)
        replace hB := below_drewN0 hB nq
        go_wp2
        go_roundw
        case rel => exact ⟨k + 1, by omega, by go_num, fun _ => ⟨gx, ox, rfl, hgx, hcx.out⟩, fun _ => ⟨gy, oy, rfl, hgy, hcy.out⟩, hB⟩
        case measure => simp [intOf]; omega
      · obtain rfl : k = l.length := by omega
        go_wp2
        go_ret
        exact ⟨rfl, hB⟩

theorem own : ownKnob Tryz.prog.godebug = none := by kernel_rfl

set_option maxRecDepth 100000 in
theorem lifted (os : Os) (started : os.Started) (H : Type) (enc : TypeId × Value → H) :
    ReturnsInHanded {} Tryz.checked os 5 .any (Rows.planAlikeSpec.pre6 enc Tryz.prog Tryz.f5 Rows.planAlikeRow.domain false) (Rows.planAlikeSpec.post enc Tryz.prog Tryz.f5 false true false false) := by
  refine returnsInHanded_of_change (C := Tryz.checked) own started (by kernel_rfl) Tryz.func5
    (ChangeSpec.witness6 (enc := enc) (C := Tryz.checked) false ⟨#[], #[.agg #[.string ⟨#[]⟩, .string ⟨#[]⟩, .int .i64 0, .int .i64 0, .int .i64 0], .int .u64 0, .int .u64 0], []⟩ 8 (by kernel_rfl) (by kernel_rfl) (by kernel_rfl) (by kernel_rfl)) ?_
  intro W base args ds gs before hval hW _ _
  have hW' := hW
  obtain ⟨p, q, hA0, hV, rfl, hfz, hnd⟩ := hW
  have hA : DataW.TrodAll enc Tryz.prog W 0 (fun _ => true) true Tryz.f5.params.toList args.toList ds p := hA0
  rw [Tryz.params5] at hA hval
  obtain ⟨v0, vs0, d0, ds0, p0, q0, hargs, rfl, rfl, h0, r0⟩ := trodAll_cons hA
  obtain ⟨v1, vs1, d1, ds1, p1, q1, rfl, rfl, rfl, h1, r1⟩ := trodAll_cons r0
  obtain ⟨v2, vs2, d2, ds2, p2, q2, rfl, rfl, rfl, h2, r2⟩ := trodAll_cons r1
  obtain ⟨rfl, rfl, rfl⟩ := trodAll_nil r2
  obtain rfl : args = #[v0, v1, v2] := by cases args; simp_all
  obtain ⟨rfl, rfl⟩ := trodVars_none hV
  have k0 := h0
  obtain ⟨s0, rfl, hs0⟩ := open_fl (hval 0 25 v0 rfl rfl) h0
  obtain ⟨a1, rfl, rfl, rfl, w1⟩ := open_int Tryz.underlying26 (hval 1 26 v1 rfl rfl) h1
  obtain ⟨c1, rfl⟩ := int_u64 w1
  obtain ⟨a2, rfl, rfl, rfl, w2⟩ := open_int Tryz.underlying26 (hval 2 26 v2 rfl rfl) h2
  obtain ⟨c2, rfl⟩ := int_u64 w2
  clear hA0
  simp only [List.append_nil] at hW'
  refine (walk s0 c1 c2 W hs0).mono fun e W' ⟨he, hB⟩ => ?_
  subst he
  exact ⟨_, rfl, ⟨_, _, _, [], _, [], hW', trodAll_cons_mk (shut_bool Tryz.underlying4 _) trodAll_mk0, (trodAll_cons_mk (Below.trod Tryz.laidOut (by kernel_rfl) (of_decide_eq_true (by kernel_rfl)) k0 hB (fun x hx => by simpa using hW'.lt x (by simp [hx]))) (trodAll_cons_mk (shut_int Tryz.underlying26 w1) (trodAll_cons_mk (shut_int Tryz.underlying26 w2) trodAll_mk0))), rfl, hB.frame _, fun h => by cases h⟩⟩

theorem holds : Rows.PlanAlikeSaid :=
  OpenClaim.holds_of_wide 5 Tryz.f5 rfl rfl rfl rfl rfl rfl rfl ⟨rfl, rfl, rfl, rfl, rfl⟩ rfl rfl rfl rfl rfl (by kernel_rfl) Tryz.func5 (by kernel_rfl)
    (of_decide_eq_true (by kernel_rfl)) (by unfold Func.isWrapper; first | (rw [if_pos (by decide +kernel)]; kernel_rfl) | (rw [if_neg (by decide +kernel)]; exact ⟨rfl, rfl⟩))
    (fun os started H enc _ => lifted os started H enc)
end Go.Proofs.YtiacdcnpkfpjaaaGreat.PlanAlike

/- From each mode there is a way to each other one, over at most three steps; numbers that are no modes have none (TableReaches); no condition. -/
import Derived.Test.YtphhpjkbigmlfaaTableLaw
import Derived.Test.YtphhpjkbigmlfaaTableRef
import Derived.Deep.RegionHeld3
import Derived.WalkLawsBesides
import Derived.WalkSpells
import Derived.IntWalk
import Derived.Lib.Hide
import Derived.Test.YtphhpjkbigmlfaaBox
import Derived.Test.YtphhpjkbigmlfaaTableReach
import Derived.Deep.LoopGhost
import Derived.Laws.AppendOwnNone
import Derived.Maps.AppendAt
import Derived.ProofKit
import Derived.OpenShut
import Derived.ChangeMaps5
import Derived.Test.YtphhpjkbigmlfaaInts
namespace Go.Proofs.Ytphhpjkbigmlfaa.TableReaches
open Go.ChangeShapes Go.WideShapes Go.ChangeAt Go.RowKit Go.ChangeMaps
set_option linter.unusedVariables false
set_option linter.unusedSimpArgs false
theorem ints_one (W : World) (x : Int) (t : TypeId) : IntsAt (W.alloc (.cells #[.int .i64 x] t)) (some ⟨W.heap.size, 0, none⟩) [x] := fun _ => by
  refine ⟨W.heap.size, 0, rfl, by simp, fun k v hk => ?_⟩
  match k, hk with
  | 0, hk =>
    obtain rfl : x = v := by simpa using hk
    exact cell_one_new W (.int .i64 x) t 0 _ rfl
  | k + 1, hk => simp at hk
theorem own_below {W W' : World} {base : Nat} {e : TypeId} {v : Value} {n : Nat} {xs : List Value} (h : W.ownsRow base e 1 v n xs) (k : Below W.heap.size W W') : W'.ownsRow base e 1 v n xs := by
  refine ⟨h.1, ?_⟩
  rcases h.2 with h2 | ⟨g, cap, cur, h1, h2, h3, h4⟩
  · exact .inl h2
  · exact .inr ⟨g, cap, cur, h1, h2, (k.block g (Array.getElem?_eq_some_iff.1 h3).1).trans h3, h4⟩

set_option maxRecDepth 100000 in
set_option maxHeartbeats 16000000 in
theorem walk (fr : UInt8) (to : UInt8) (W : World)  :
    Calls Try.prog 4 #[.int .u8 (fr.toNat : Int), .int .u8 (to.toNat : Int)] W fun e W' => e = .returned (.bool true) ∧ Below W.heap.size W W' := by
  have a8 := fr.toNat_lt
  have b8 := to.toNat_lt
  obtain ⟨a, ha⟩ : ∃ a, fr.toNat % 8 = a := ⟨_, rfl⟩
  obtain ⟨b, hb⟩ : ∃ b, to.toNat % 8 = b := ⟨_, rfl⟩
  have x1 : (wrap64 (fr.toNat : Int)).tmod 8 = (a : Int) := by rw [w64_u8, Int.tmod_eq_emod_of_nonneg (by omega)]; omega
  have x2 : (wrap64 (to.toNat : Int)).tmod 8 = (b : Int) := by rw [w64_u8, Int.tmod_eq_emod_of_nonneg (by omega)]; omega
  have ha7 : a < 8 := by omega
  have hb7 : b < 8 := by omega
  have HF := Lib.hid (reach_all ha7 hb7)
  have HL := Lib.hid (fun n => reachL_len (a : Int) n)
  have HI := Lib.hid (fun n => reachL_in (a := (a : Int)) ⟨by omega, by omega⟩ n)
  have HG := Lib.hid (fun n => (show reachL (a : Int) (n + 1) = growG (reachL (a : Int) n) (reachL (a : Int) n).length from rfl))
  have HZ := Lib.hid (show reachL (a : Int) 0 = [(a : Int)] from rfl)
  have TW := Lib.hid (fun (v : Int) (V : World) (h : 0 ≤ v ∧ v ≤ 7) => own15WaysC v V ⟨by omega, by omega⟩)
  generalize reachL (a : Int) = R at *
  obtain ⟨i0, hi, hz0, hz1, hz2⟩ := info_parts info_int0
  clear a8 b8 ha hb
  have hB : Below W.heap.size W W := Below.refl _ _
  go_enter Try.func4, Try.ntmps4
  go_wp2
  go_loopg [7, 8] 3 (fun q v i w => ∃ (n : Nat) (A : Option Addr) (c : Nat), n + q = 3 ∧ i = .int .i64 n ∧ v = .slice A (R n).length c ∧ IntsAt w A (R n) ∧ Below W.heap.size W w)
  case atStart => exact ⟨0, some ⟨W.heap.size, 0, none⟩, 1, rfl, rfl, by rw [HZ.out]; rfl, (show IntsAt _ _ (R 0) from by rw [HZ.out]; exact ints_one _ _ _), hB.alloc (Nat.le_refl _) _⟩
  case round =>
    obtain ⟨n, A, c, hn, rfl, rfl, hA0, hB⟩ := hrel
    replace hn := Lib.hid hn
    have hlen := HL.out n
    by_cases hlt : n < 3
    · have i1 : (n : Int) < 3 := by omega
      have hp : 7 ^ n ≤ 49 := by rcases (show n = 0 ∨ n = 1 ∨ n = 2 from by omega) with rfl | rfl | rfl <;> decide
      have HS := Lib.hid (HG.out n)
      have HIn := Lib.hid (HI.out n)
      have HLn := Lib.hid (HL.out (n + 1))
      have hp7 : 7 ^ (n + 1) ≤ 343 := by rw [Nat.pow_succ]; omega
      have h1 : 0 < (R n).length := by have := HZ.out; rcases (show n = 0 ∨ n = 1 ∨ n = 2 from by omega) with rfl | rfl | rfl; rw [HZ.out]; exact Nat.zero_lt_one; rw [HG.out 0, growG, List.length_append, HZ.out]; exact Nat.lt_of_lt_of_le Nat.zero_lt_one (Nat.le_add_right _ _); rw [HG.out 1, growG, List.length_append, HG.out 0, growG, List.length_append, HZ.out]; exact Nat.lt_of_lt_of_le Nat.zero_lt_one (Nat.le_trans (Nat.le_add_right _ _) (Nat.le_add_right _ _))
      replace hp7 : (R (n + 1)).length ≤ 343 := Nat.le_trans (HL.out (n + 1)) hp7
      have hm : (R n).length ≤ 49 := Nat.le_trans hlen hp
      clear hlen hp HLn
      obtain ⟨wo, rfl⟩ : ∃ wo : World, wo = wr := ⟨_, rfl⟩
      obtain ⟨go, rfl⟩ : ∃ go : Nat, go = gk := ⟨_, rfl⟩
      obtain ⟨g, off, rfl, hg, hc⟩ := hA0 h1
      replace hc := Lib.hid hc
      obtain ⟨L2, hL2⟩ : ∃ L2, R (n + 1) = L2 := ⟨_, rfl⟩
      have HR2 := Lib.hid hL2
      rw [hL2] at hp7
      have HS := Lib.hid (hL2.symm.trans HS.out)
      clear hL2
      generalize R n = L at *
      have HV := Lib.hid (fun (k : Nat) (h : k < L.length) => (show ∃ v, L[k]? = some v ∧ (0 ≤ v ∧ v ≤ 7) from ⟨_, List.getElem?_eq_getElem h, HIn.out _ (List.getElem_mem h)⟩))
      have h1b := Lib.hid h1
      have hmb := Lib.hid hm
      have hpb := Lib.hid hp7
      have hgb := Lib.hid hg
      have HGL := Lib.hid (fun (k : Nat) (h : k ≤ L.length) => growG_len L k h)
      clear hp7 hg
      go_wp2_with (at_builtin; refine wpList_append_own _ rfl _ _ 26 rfl wo.heap.size 3 i0 (.int .i64 0) 1 8 Try.underlying26 hi hz0 hz1 hz2 rfl (by decide) _ 0 [] rfl (World.ownsRow_made _ _ 0 (by simp) (by simp) rfl) ⟨g, off, none⟩ L.length c (L.map (Value.int .i64)) rfl (by simp) ?c1 ?c2 ?c3 ?c4 ?c5 ?_)
      case c1 =>
        intro j u hu
        rw [List.getElem?_map] at hu
        cases hj : L[j]? with
        | none => rw [hj] at hu; cases hu
        | some x =>
          rw [hj] at hu
          obtain rfl : Value.int .i64 x = u := Option.some.inj hu
          rw [show ((⟨g, off, none⟩ : Addr).add j) = ⟨g, off + j, none⟩ from by simp [Addr.add]]
          refine (Below.cell ((Below.refl _ wo).alloc (Nat.le_refl _) _) (p := ⟨g, off + j, none⟩) hgb.out).trans (hc.out j x hj)
      case c2 => intro u hu; obtain ⟨x, _, rfl⟩ := List.mem_map.1 hu; rfl
      case c3 => unfold maxLen; omega
      case c4 => omega
      case c5 => simp
      intro v' w1 hown hgrow _
      have hB1 : Below wo.heap.size wo w1 := ((Below.refl _ wo).alloc (Nat.le_refl _) _).grown hgrow (by simp) (fun j e => by cases e; exact Nat.le_refl _)
      have hown0 : w1.ownsRow wo.heap.size 3 1 v' (growG L 0).length ((growG L 0).map (Value.int .i64)) := by rw [growG_zero]; simpa using hown
      clear hown hgrow h1
      go_wp2
      go_loopg [9, 10] L.length (fun q v i w => ∃ k : Nat, k + q = L.length ∧ i = .int .i64 k ∧ w.ownsRow wo.heap.size 3 1 v (growG L k).length ((growG L k).map (Value.int .i64)) ∧ Below wo.heap.size wo w)
      case atStart => exact ⟨0, by omega, rfl, hown0, hB1⟩
      case round =>
        clear hB1 hown0
        obtain ⟨k, hk, rfl, hown, hV⟩ := hrel
        replace hk := Lib.hid hk
        by_cases hkt : k < L.length
        · obtain ⟨v, hv, hv7⟩ := HV.out k hkt
          have y0 : wr.cell? ⟨g, off + k, none⟩ = some (.int .i64 v) := (hV.cell (p := ⟨g, _, none⟩) hgb.out).trans (hc.out k v hv)
          have i2 : (0 : Int) ≤ (k : Int) := by omega
          have i3 : (k : Int) < (L.length : Int) := by omega
          have HSk := Lib.hid (growG_succ hv)
          have hw6 := Lib.hid (waysL_len v)
          have hgl := Lib.hid (HGL.out k (by omega))
          have T1 := Lib.hid (fun (V : World) => TW.out v V hv7)
          clear hv hv7
          go_wp2_with fail
          refine (T1.out _).mono ?_
          rintro e V1 ⟨A', c', rfl, hA', hk', hn0⟩
          have hown1 : V1.ownsRow wo.heap.size 3 1 _ _ _ := own_below hown hk'
          replace hV := below_seq hV hk'
          clear hown hk' y0
          have hsz := hV.size
          replace hn0 := Lib.hid hn0
          replace hA' := Lib.hid hA'
          generalize hW : waysL v = Lw at *
          clear hW
          cases A' with
          | none =>
              have e0 := hn0.out rfl
              subst e0
              have e1 : Lw = [] := by cases Lw with
                  | nil => rfl
                  | cons x xs => obtain ⟨_, _, h, _⟩ := hA'.out (by simp); cases h
              subst e1
              go_wp2_with (at_builtin; refine wpList_append_own_none rfl _ _ 26 rfl wo.heap.size 3 i0 1 Try.underlying26 hi _ _ _ rfl hown1 rfl ?_)
              go_wp2
              go_roundg (L.length - (k + 1))
              case measure => have := hk.out; omega
              case rel => have hmb2 := hmb.out; exact ⟨k + 1, by omega, by go_num, by rw [HSk.out, List.append_nil]; exact hown1, hV⟩
          | some ad =>
              go_wp2_with (at_builtin; refine wpList_append_own _ rfl _ _ 26 rfl wo.heap.size 3 i0 (.int .i64 0) 1 8 Try.underlying26 hi hz0 hz1 hz2 rfl (by decide) _ _ _ rfl hown1 ad Lw.length c' (Lw.map (Value.int .i64)) rfl (by simp) ?c1 ?c2 ?c3 ?c4 ?c5 ?_)
              case c1 =>
                intro j u hu
                rw [List.getElem?_map] at hu
                cases hj : Lw[j]? with
                | none => rw [hj] at hu; cases hu
                | some x =>
                  rw [hj] at hu
                  obtain rfl : Value.int .i64 x = u := Option.some.inj hu
                  obtain ⟨g', off', e, hcl⟩ := hA'.out.at hj
                  cases e
                  rw [show ((⟨g', off', none⟩ : Addr).add j) = ⟨g', off' + j, none⟩ from by simp [Addr.add]]
                  exact hcl
              case c2 => intro u hu; obtain ⟨x, _, rfl⟩ := List.mem_map.1 hu; rfl
              case c3 => have := hgl.out; have := hw6.out; have := hmb.out; unfold maxLen; omega
              case c4 => have := hgl.out; have := hw6.out; have := hmb.out; omega
              case c5 => exact hsz
              intro v' w1 hown' hgrow _
              have hB2 : Below wo.heap.size wo w1 := hV.grown hgrow hsz (fun j e => (hown1.lt j e).1)
              have H3 : Hid (w1.ownsRow wo.heap.size 3 1 v' (growG L (k + 1)).length ((growG L (k + 1)).map (Value.int .i64))) := by
                rw [HSk.out, List.length_append, List.map_append]; exact hown'
              clear hown' hown1 hgrow hV
              go_wp2
              go_roundg (L.length - (k + 1))
              case measure => have := hk.out; omega
              case rel => have hmb2 := hmb.out; exact ⟨k + 1, by omega, by go_num, H3.out, hB2⟩
        · obtain rfl : k = L.length := by have := hk.out; omega
          rw [← HS.out] at hown
          obtain ⟨A2, c2, rfl, hA2, _⟩ := ints_of_row hown
          clear hown
          replace hB := below_seq hB hV
          have i4 : ¬ (L.length : Int) < (L.length : Int) := by omega
          have i5 : ¬ (L2.length : Int) > 2000 := by have := hpb.out; omega
          skip
          replace hA2 := Lib.hid hA2
          go_wp2
          go_roundg (3 - (n + 1))
          case measure => have := hn.out; omega
          case rel => exact ⟨n + 1, A2, c2, by omega, by go_num, by rw [HR2.out], by rw [HR2.out]; exact hA2.out, hB⟩
    · obtain rfl : n = 3 := by have := hn.out; omega
      have hF := HF.out
      have hA0b := Lib.hid hA0
      obtain ⟨L, hL⟩ : ∃ L, R 3 = L := ⟨_, rfl⟩
      rw [hL] at hF hA0b hlen
      rw [hL]
      have HV := Lib.hid (fun (k : Nat) (h : k < L.length) => (show ∃ v, L[k]? = some v from ⟨_, List.getElem?_eq_getElem h⟩))
      have HT := Lib.hid (fun (k : Nat) (v : Int) (h : L[k]? = some v) => take_found h (b : Int))
      have HFb := Lib.hid hF
      have hlb := Lib.hid (show L.length ≤ 343 from hlen)
      have hl9 : L.length ≤ 343 := hlen
      clear hF hA0 hlen
      obtain ⟨wo, rfl⟩ : ∃ wo : World, wo = wr := ⟨_, rfl⟩
      go_wp2
      go_loopg [11, 12] L.length (fun q v i w => ∃ k : Nat, k + q = L.length ∧ i = .int .i64 k ∧ v = .bool (decide ((b : Int) ∈ L.take k)) ∧ Below wo.heap.size wo w)
      case atStart => exact ⟨0, by omega, rfl, by simp, Below.refl _ _⟩
      case round =>
        obtain ⟨k, hk, rfl, rfl, hV⟩ := hrel
        replace hk := Lib.hid hk
        by_cases hkt : k < L.length
        · obtain ⟨v, hv⟩ := HV.out k hkt
          have ht := Lib.hid (HT.out k v hv)
          obtain ⟨g, off, rfl, y0⟩ := (hA0b.out.seq hV).at hv
          have i2 : (0 : Int) ≤ (k : Int) := by omega
          have i3 : (k : Int) < (L.length : Int) := by omega
          clear hv
          generalize decide ((b : Int) ∈ L.take k) = f at *
          cases f
          · skip
            go_wp2
            go_roundg (L.length - (k + 1))
            case measure => have := hk.out; omega
            case rel => have hlb2 := hlb.out; exact ⟨k + 1, by omega, by go_num, by rw [ht.out]; rfl, hV⟩
          · skip
            go_wp2
            go_roundg (L.length - (k + 1))
            case measure => have := hk.out; omega
            case rel => have hlb2 := hlb.out; exact ⟨k + 1, by omega, by go_num, by rw [ht.out]; rfl, hV⟩
        · obtain rfl : k = L.length := by have := hk.out; omega
          have i3 : ¬ (L.length : Int) < (L.length : Int) := by omega
          replace hB := below_seq hB hV
          have hF := HFb.out
          rw [List.take_length]
          clear hV HV HT
          generalize decide ((b : Int) ∈ L) = F at *
          by_cases c1 : a ≤ 5
          · have d1 : (a : Int) ≤ 5 := by omega
            by_cases c2 : b ≤ 5
            · have d2 : (b : Int) ≤ 5 := by omega
              have c2' := c2
              obtain rfl : F = true := by rw [hF]; simp [c1, c2]
              clear hF HFb
              go_wp2_with fail
              refine (shown15 _).mono ?_
              rintro e V61 ⟨rfl, hk⟩
              replace hB := below_seq hB hk
              clear hk
              go_wp2
              go_ret
              exact ⟨rfl, hB⟩
            · have d2 : ¬ (b : Int) ≤ 5 := by omega
              have c2' := c2
              have c3 : ¬ a = b := by omega
              have d3 : ((a : Int) == (b : Int)) = false := beq_eq_false_iff_ne.2 (by omega)
              obtain rfl : F = false := by rw [hF]; simp [c1, c2, c3]
              clear hF HFb
              go_wp2_with fail
              refine (shown15 _).mono ?_
              rintro e V61 ⟨rfl, hk⟩
              replace hB := below_seq hB hk
              clear hk
              go_wp2
              go_ret
              exact ⟨rfl, hB⟩
          · have d1 : ¬ (a : Int) ≤ 5 := by omega
            by_cases c3 : a = b
            · have d3 : ((a : Int) == (b : Int)) = true := beq_iff_eq.2 (by omega)
              have c3' := c3
              obtain rfl : F = true := by rw [hF]; simp [c1, c3]
              clear hF HFb
              go_wp2_with fail
              refine (shown15 _).mono ?_
              rintro e V61 ⟨rfl, hk⟩
              replace hB := below_seq hB hk
              clear hk
              go_wp2
              go_ret
              exact ⟨rfl, hB⟩
            · have d3 : ((a : Int) == (b : Int)) = false := beq_eq_false_iff_ne.2 (by omega)
              have c3' := c3
              obtain rfl : F = false := by rw [hF]; simp [c1, c3]
              clear hF HFb
              go_wp2_with fail
              refine (shown15 _).mono ?_
              rintro e V61 ⟨rfl, hk⟩
              replace hB := below_seq hB hk
              clear hk
              go_wp2
              go_ret
              exact ⟨rfl, hB⟩

theorem own : ownKnob Try.prog.godebug = none := by kernel_rfl

set_option maxRecDepth 100000 in
theorem lifted (os : Os) (started : os.Started) (H : Type) (enc : TypeId × Value → H) :
    ReturnsInHanded {} Try.checked os 4 .any (Rows.tableReachesSpec.pre6 enc Try.prog Try.f4 Rows.tableReachesRow.domain false) (Rows.tableReachesSpec.post enc Try.prog Try.f4 false true false false) := by
  refine returnsInHanded_of_change (C := Try.checked) own started (by kernel_rfl) Try.func4
    (ChangeSpec.witness6 (enc := enc) (C := Try.checked) false ⟨#[], #[.int .u8 0, .int .u8 0], []⟩ 8 (by kernel_rfl) (by kernel_rfl) (by kernel_rfl) (by kernel_rfl)) ?_
  intro W base args ds gs before hval hW _ _
  have hW' := hW
  obtain ⟨p, q, hA0, hV, rfl, hfz, hnd⟩ := hW
  have hA : DataW.TrodAll enc Try.prog W 0 (fun _ => true) true Try.f4.params.toList args.toList ds p := hA0
  rw [Try.params4] at hA hval
  obtain ⟨v0, vs0, d0, ds0, p0, q0, hargs, rfl, rfl, h0, r0⟩ := trodAll_cons hA
  obtain ⟨v1, vs1, d1, ds1, p1, q1, rfl, rfl, rfl, h1, r1⟩ := trodAll_cons r0
  obtain ⟨rfl, rfl, rfl⟩ := trodAll_nil r1
  obtain rfl : args = #[v0, v1] := by cases args; simp_all
  obtain ⟨rfl, rfl⟩ := trodVars_none hV
  obtain ⟨a0, rfl, rfl, rfl, w0⟩ := open_int Try.underlying5 (hval 0 5 v0 rfl rfl) h0
  obtain ⟨c0, rfl⟩ := int_u8 w0
  obtain ⟨a1, rfl, rfl, rfl, w1⟩ := open_int Try.underlying5 (hval 1 5 v1 rfl rfl) h1
  obtain ⟨c1, rfl⟩ := int_u8 w1
  clear hA0
  simp only [List.append_nil] at hW'
  refine (walk c0 c1 W ).mono fun e W' ⟨he, hB⟩ => ?_
  subst he
  exact ⟨_, rfl, ⟨_, _, _, [], _, [], hW', trodAll_cons_mk (shut_bool Try.underlying4 _) trodAll_mk0, (trodAll_cons_mk (shut_int Try.underlying5 w0) (trodAll_cons_mk (shut_int Try.underlying5 w1) trodAll_mk0)), rfl, hB.frame _, fun h => by cases h⟩⟩

theorem holds : Rows.TableReachesSaid :=
  OpenClaim.holds_of_wide 4 Try.f4 rfl rfl rfl rfl rfl rfl rfl ⟨rfl, rfl, rfl, rfl, rfl⟩ rfl rfl rfl rfl rfl (by kernel_rfl) Try.func4 (by kernel_rfl)
    (of_decide_eq_true (by kernel_rfl)) (by unfold Func.isWrapper; first | (rw [if_pos (by decide +kernel)]; kernel_rfl) | (rw [if_neg (by decide +kernel)]; exact ⟨rfl, rfl⟩))
    (fun os started H enc _ => lifted os started H enc)
end Go.Proofs.Ytphhpjkbigmlfaa.TableReaches

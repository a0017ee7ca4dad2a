/- Of one bank that is sound, alone, all is said by it; of two it is the younger one (PickOne); no condition. -/
import Derived.Test.YtejhbamlnkhfcaaPickLaw
import Derived.Deep.RegionHeld3
import Derived.WalkLawsBesides
import Derived.WalkSpells
import Derived.IntWalk
import Derived.Lib.Hide
import Derived.Test.YtejhbamlnkhfcaaBox
import Derived.ProofKit
import Derived.OpenShut
import Derived.ChangeMaps5
import Derived.Test.YtejhbamlnkhfcaaInts
namespace Go.Proofs.Ytejhbamlnkhfcaa.PickOne
open Go.ChangeShapes Go.WideShapes Go.ChangeAt Go.RowKit Go.ChangeMaps
set_option linter.unusedVariables false
set_option linter.unusedSimpArgs false

set_option maxRecDepth 100000 in
set_option maxHeartbeats 16000000 in
theorem walk (g : BitVec 64) (h : BitVec 64) (q : BitVec 64) (d : BitVec 64) (b : Bool) (W : World)  :
    Calls Try.prog 5 #[.int .u64 (g.toNat : Int), .int .u64 (h.toNat : Int), .int .u64 (q.toNat : Int), .int .u64 (d.toNat : Int), .bool b] W fun e W' => e = .returned (.bool true) ∧ Below W.heap.size W W' := by
  have zs : slotsF ((48 : Nat) : Int) ≠ 0 := by decide
  obtain ⟨d1, hd1⟩ : ∃ d1 : Nat, d1 = (d.toNat + 1) % 18446744073709551616 := ⟨_, rfl⟩
  have hgl := g.isLt
  have hhl := h.isLt
  have hql := q.isLt
  have hdl := d.isLt
  have w2 : IntKind.u64.wrap ((d.toNat : Int) + 1) = (d1 : Int) := by simp [IntKind.wrap, IntKind.bits, IntKind.signed]; omega
  have hd1l : d1 < 18446744073709551616 := by omega
  obtain ⟨sg, gg, lg, zg, _⟩ := fresh_says (z := 48) (g := g.toNat) (seq := q.toNat) (data := d.toNat) zs hgl hql hdl
  obtain ⟨sh, gh, lh, zh, _⟩ := fresh_says (z := 48) (g := h.toNat) (seq := q.toNat) (data := d1) zs hhl hql hd1l
  have sz : soundB pkZ = false := deadH_sound (deadH_rep (slL_blank (by decide)))
  have TN := Lib.hid (fun (V : World) => (show Calls Try.prog 13 #[.int .i64 48, .int .i64 9] V fun e W' => e = .returned (.agg #[.string pkZ, .string pkZ, .int .i64 0, .int .i64 0, .int .i64 9]) ∧ Below V.heap.size V W' from by have h := flNew 48 9 V; rw [pk_new] at h; exact h))
  have T1 := Lib.hid (fun (V : World) => law10One g.toNat q.toNat d.toNat V hgl hql hdl)
  have T2 := Lib.hid (fun (V : World) => law10One h.toNat q.toNat d1 V hhl hql hd1l)
  have okm : ∀ a b : ByteArray, a.size = 48 → b.size = 48 → Fl.ok ⟨a, b, 0, 0, 9⟩ := fun a b ha hb => ⟨by show a.size ≤ maxLen; rw [ha]; decide, by show b.size ≤ maxLen; rw [hb]; decide, ⟨by show (-9223372036854775808 : Int) ≤ 0; decide, by show (0 : Int) ≤ 9223372036854775807; decide⟩, ⟨by show (-9223372036854775808 : Int) ≤ 0; decide, by show (0 : Int) ≤ 9223372036854775807; decide⟩, ⟨by show (-9223372036854775808 : Int) ≤ 9; decide, by show (9 : Int) ≤ 9223372036854775807; decide⟩⟩
  have z48 : pkZ.size = 48 := pk_z.2.2
  generalize hfg : freshB 48 g.toNat q.toNat d.toNat = A at *
  generalize hfh : freshB 48 h.toNat q.toNat d1 = B at *
  generalize pkZ = Z at *
  have reads : ∀ (a b : ByteArray) (k : Int), (k = 0 ∨ k = 1) → bankG a b = k → a.size = 48 → b.size = 48 → ∀ V, Calls Try.prog 12 #[.agg #[.string a, .string b, .int .i64 0, .int .i64 0, .int .i64 9]] V fun e W' => e = .returned (.tuple #[.agg #[.int .i64 k, .int .u64 (genN (if k = 0 then a else b) : Int), .int .u64 ((lastR (if k = 0 then a else b)).seq : Int), .int .u64 ((lastR (if k = 0 then a else b)).data : Int)], .int .i64 0]) ∧ Below V.heap.size V W' := fun a b k hk hb za zb V => by
    have h1 := own10Read ⟨a, b, 0, 0, 9⟩ V (okm a b za zb)
    have hbk : bankK ⟨a, b, 0, 0, 9⟩ = k := hb
    rw [pickE_zero.2 (by rw [hbk]; exact hk), pickS_some (by rw [hbk]; exact hk), hbk] at h1
    exact h1
  clear hfg hfh hd1 hgl hhl hql hdl hd1l okm zs
  cases b
  · by_cases hlt : h.toNat < g.toNat
    · have TR1 := Lib.hid (fun (V : World) => (show Calls Try.prog 12 #[.agg #[.string A, .string Z, .int .i64 0, .int .i64 0, .int .i64 9]] V fun e W' => e = .returned (.tuple #[.agg #[.int .i64 0, .int .u64 (g.toNat : Int), .int .u64 (q.toNat : Int), .int .u64 (d.toNat : Int)], .int .i64 0]) ∧ Below V.heap.size V W' from by have h1 := reads A Z 0 (by decide) (bankG_is0 sg (fun x => by rw [sz] at x; cases x)) zg z48 V; rw [if_pos rfl, gg, lg] at h1; exact h1))
      have TR2 := Lib.hid (fun (V : World) => (show Calls Try.prog 12 #[.agg #[.string A, .string B, .int .i64 0, .int .i64 0, .int .i64 9]] V fun e W' => e = .returned (.tuple #[.agg #[.int .i64 0, .int .u64 (g.toNat : Int), .int .u64 (q.toNat : Int), .int .u64 (d.toNat : Int)], .int .i64 0]) ∧ Below V.heap.size V W' from by have h1 := reads A B 0 (by decide) (bankG_is0 sg (fun _ => by rw [gg, gh]; clear w2; omega)) zg zh V; rw [if_pos rfl, gg, lg] at h1; exact h1))
      clear reads sg sh lg lh gg gh zg zh sz z48
      have m1 : (h.toNat : Int) < (g.toNat : Int) := by clear w2; omega
      clear hlt
      have hB : Below W.heap.size W W := Below.refl _ _
      go_enter Try.func5, Try.ntmps5
      go_wp2_with fail
      refine (TN.out _).mono ?_
      rintro e V1 ⟨rfl, hk⟩
      replace hB := below_seq hB hk
      clear hk
      have xf := Box.new 25 V1 [.string Z, .string Z, .int .i64 0, .int .i64 0, .int .i64 9]
      have le_xf : W.heap.size ≤ V1.heap.size := hB.size
      replace hB := hB.alloc hB.size (.cells #[.string Z, .string Z, .int .i64 0, .int .i64 0, .int .i64 9] 25)
      have xf0 := xf.cell 0 rfl
      have xfz0 := xf.frozen 0
      have xf1 := xf.cell 1 rfl
      have xfz1 := xf.frozen 1
      have xf2 := xf.cell 2 rfl
      have xfz2 := xf.frozen 2
      have xf3 := xf.cell 3 rfl
      have xfz3 := xf.frozen 3
      have xf4 := xf.cell 4 rfl
      have xfz4 := xf.frozen 4
      go_wp2_with fail
      refine (T1.out _).mono ?_
      rintro e V2 ⟨rfl, hk⟩
      clear xf0 xfz0 xf1 xfz1 xf2 xfz2 xf3 xfz3 xf4 xfz4
      replace hB := below_seq hB hk
      replace xf := xf.seq hk
      clear hk
      have xf0 := xf.cell 0 rfl
      have xfz0 := xf.frozen 0
      have xf1 := xf.cell 1 rfl
      have xfz1 := xf.frozen 1
      have xf2 := xf.cell 2 rfl
      have xfz2 := xf.frozen 2
      have xf3 := xf.cell 3 rfl
      have xfz3 := xf.frozen 3
      have xf4 := xf.cell 4 rfl
      have xfz4 := xf.frozen 4
      go_wp2_with fail
      clear xf0 xfz0 xf1 xfz1 xf2 xfz2 xf3 xfz3 xf4 xfz4
      replace xf : Box 25 (V2.setCell ⟨V1.heap.size, 0, none⟩ (.string A)) (V1.heap.size) [.string A, .string Z, .int .i64 0, .int .i64 0, .int .i64 9] := (xf.set 0 (.string A))
      replace hB : Below W.heap.size W (V2.setCell ⟨V1.heap.size, 0, none⟩ (.string A)) := (hB.setCell le_xf _)
      generalize (V2.setCell ⟨V1.heap.size, 0, none⟩ (.string A)) = V3 at *
      have xf0 := xf.cell 0 rfl
      have xfz0 := xf.frozen 0
      have xf1 := xf.cell 1 rfl
      have xfz1 := xf.frozen 1
      have xf2 := xf.cell 2 rfl
      have xfz2 := xf.frozen 2
      have xf3 := xf.cell 3 rfl
      have xfz3 := xf.frozen 3
      have xf4 := xf.cell 4 rfl
      have xfz4 := xf.frozen 4
      refine (TR1.out _).mono ?_
      rintro e V4 ⟨rfl, hk⟩
      clear xf0 xfz0 xf1 xfz1 xf2 xfz2 xf3 xfz3 xf4 xfz4
      replace hB := below_seq hB hk
      replace xf := xf.seq hk
      clear hk
      have xa := Box.new 35 V4 [.int .i64 0, .int .u64 (g.toNat : Int), .int .u64 (q.toNat : Int), .int .u64 (d.toNat : Int)]
      have ne_xa_xf : V4.heap.size ≠ V1.heap.size := Nat.ne_of_gt xf.lt
      have le_xa : W.heap.size ≤ V4.heap.size := hB.size
      replace xf := xf.alloc (.cells #[.int .i64 0, .int .u64 (g.toNat : Int), .int .u64 (q.toNat : Int), .int .u64 (d.toNat : Int)] 35)
      replace hB := hB.alloc hB.size (.cells #[.int .i64 0, .int .u64 (g.toNat : Int), .int .u64 (q.toNat : Int), .int .u64 (d.toNat : Int)] 35)
      have xf0 := xf.cell 0 rfl
      have xfz0 := xf.frozen 0
      have xf1 := xf.cell 1 rfl
      have xfz1 := xf.frozen 1
      have xf2 := xf.cell 2 rfl
      have xfz2 := xf.frozen 2
      have xf3 := xf.cell 3 rfl
      have xfz3 := xf.frozen 3
      have xf4 := xf.cell 4 rfl
      have xfz4 := xf.frozen 4
      have xa0 := xa.cell 0 rfl
      have xaz0 := xa.frozen 0
      have xa1 := xa.cell 1 rfl
      have xaz1 := xa.frozen 1
      have xa2 := xa.cell 2 rfl
      have xaz2 := xa.frozen 2
      have xa3 := xa.cell 3 rfl
      have xaz3 := xa.frozen 3
      go_wp2_with fail
      refine (T2.out _).mono ?_
      rintro e V5 ⟨rfl, hk⟩
      clear xf0 xfz0 xf1 xfz1 xf2 xfz2 xf3 xfz3 xf4 xfz4 xa0 xaz0 xa1 xaz1 xa2 xaz2 xa3 xaz3
      replace hB := below_seq hB hk
      replace xf := xf.seq hk
      replace xa := xa.seq hk
      clear hk
      have xf0 := xf.cell 0 rfl
      have xfz0 := xf.frozen 0
      have xf1 := xf.cell 1 rfl
      have xfz1 := xf.frozen 1
      have xf2 := xf.cell 2 rfl
      have xfz2 := xf.frozen 2
      have xf3 := xf.cell 3 rfl
      have xfz3 := xf.frozen 3
      have xf4 := xf.cell 4 rfl
      have xfz4 := xf.frozen 4
      have xa0 := xa.cell 0 rfl
      have xaz0 := xa.frozen 0
      have xa1 := xa.cell 1 rfl
      have xaz1 := xa.frozen 1
      have xa2 := xa.cell 2 rfl
      have xaz2 := xa.frozen 2
      have xa3 := xa.cell 3 rfl
      have xaz3 := xa.frozen 3
      go_wp2_with fail
      clear xf0 xfz0 xf1 xfz1 xf2 xfz2 xf3 xfz3 xf4 xfz4 xa0 xaz0 xa1 xaz1 xa2 xaz2 xa3 xaz3
      replace xa : Box 35 (V5.setCell ⟨V1.heap.size, 1, none⟩ (.string B)) (V4.heap.size) [.int .i64 0, .int .u64 (g.toNat : Int), .int .u64 (q.toNat : Int), .int .u64 (d.toNat : Int)] := (xa.other (Ne.symm ne_xa_xf) 1 (.string B))
      replace xf : Box 25 (V5.setCell ⟨V1.heap.size, 1, none⟩ (.string B)) (V1.heap.size) [.string A, .string B, .int .i64 0, .int .i64 0, .int .i64 9] := (xf.set 1 (.string B))
      replace hB : Below W.heap.size W (V5.setCell ⟨V1.heap.size, 1, none⟩ (.string B)) := (hB.setCell le_xf _)
      generalize (V5.setCell ⟨V1.heap.size, 1, none⟩ (.string B)) = V6 at *
      have xf0 := xf.cell 0 rfl
      have xfz0 := xf.frozen 0
      have xf1 := xf.cell 1 rfl
      have xfz1 := xf.frozen 1
      have xf2 := xf.cell 2 rfl
      have xfz2 := xf.frozen 2
      have xf3 := xf.cell 3 rfl
      have xfz3 := xf.frozen 3
      have xf4 := xf.cell 4 rfl
      have xfz4 := xf.frozen 4
      have xa0 := xa.cell 0 rfl
      have xaz0 := xa.frozen 0
      have xa1 := xa.cell 1 rfl
      have xaz1 := xa.frozen 1
      have xa2 := xa.cell 2 rfl
      have xaz2 := xa.frozen 2
      have xa3 := xa.cell 3 rfl
      have xaz3 := xa.frozen 3
      refine (TR2.out _).mono ?_
      rintro e V7 ⟨rfl, hk⟩
      clear xf0 xfz0 xf1 xfz1 xf2 xfz2 xf3 xfz3 xf4 xfz4 xa0 xaz0 xa1 xaz1 xa2 xaz2 xa3 xaz3
      replace hB := below_seq hB hk
      replace xf := xf.seq hk
      replace xa := xa.seq hk
      clear hk
      have xb := Box.new 35 V7 [.int .i64 0, .int .u64 (g.toNat : Int), .int .u64 (q.toNat : Int), .int .u64 (d.toNat : Int)]
      have ne_xb_xf : V7.heap.size ≠ V1.heap.size := Nat.ne_of_gt xf.lt
      have ne_xb_xa : V7.heap.size ≠ V4.heap.size := Nat.ne_of_gt xa.lt
      have le_xb : W.heap.size ≤ V7.heap.size := hB.size
      replace xf := xf.alloc (.cells #[.int .i64 0, .int .u64 (g.toNat : Int), .int .u64 (q.toNat : Int), .int .u64 (d.toNat : Int)] 35)
      replace xa := xa.alloc (.cells #[.int .i64 0, .int .u64 (g.toNat : Int), .int .u64 (q.toNat : Int), .int .u64 (d.toNat : Int)] 35)
      replace hB := hB.alloc hB.size (.cells #[.int .i64 0, .int .u64 (g.toNat : Int), .int .u64 (q.toNat : Int), .int .u64 (d.toNat : Int)] 35)
      have xf0 := xf.cell 0 rfl
      have xfz0 := xf.frozen 0
      have xf1 := xf.cell 1 rfl
      have xfz1 := xf.frozen 1
      have xf2 := xf.cell 2 rfl
      have xfz2 := xf.frozen 2
      have xf3 := xf.cell 3 rfl
      have xfz3 := xf.frozen 3
      have xf4 := xf.cell 4 rfl
      have xfz4 := xf.frozen 4
      have xa0 := xa.cell 0 rfl
      have xaz0 := xa.frozen 0
      have xa1 := xa.cell 1 rfl
      have xaz1 := xa.frozen 1
      have xa2 := xa.cell 2 rfl
      have xaz2 := xa.frozen 2
      have xa3 := xa.cell 3 rfl
      have xaz3 := xa.frozen 3
      have xb0 := xb.cell 0 rfl
      have xbz0 := xb.frozen 0
      have xb1 := xb.cell 1 rfl
      have xbz1 := xb.frozen 1
      have xb2 := xb.cell 2 rfl
      have xbz2 := xb.frozen 2
      have xb3 := xb.cell 3 rfl
      have xbz3 := xb.frozen 3
      clear xf0 xfz0 xf1 xfz1 xf2 xfz2 xf3 xfz3 xf4 xfz4 xa0 xaz0 xa1 xaz1 xa2 xaz2 xa3 xaz3 xb0 xbz0 xb1 xbz1 xb2 xbz2 xb3 xbz3
      have xa0 := xa.cell 0 rfl
      have xaz0 := xa.frozen 0
      have xa1 := xa.cell 1 rfl
      have xaz1 := xa.frozen 1
      have xa2 := xa.cell 2 rfl
      have xaz2 := xa.frozen 2
      have xa3 := xa.cell 3 rfl
      have xaz3 := xa.frozen 3
      have xb0 := xb.cell 0 rfl
      have xbz0 := xb.frozen 0
      have xb1 := xb.cell 1 rfl
      have xbz1 := xb.frozen 1
      have xb2 := xb.cell 2 rfl
      have xbz2 := xb.frozen 2
      have xb3 := xb.cell 3 rfl
      have xbz3 := xb.frozen 3
      go_wp2_with fail
      refine (shown10 _).mono ?_
      rintro e V8 ⟨rfl, hk⟩
      clear xa0 xaz0 xa1 xaz1 xa2 xaz2 xa3 xaz3 xb0 xbz0 xb1 xbz1 xb2 xbz2 xb3 xbz3
      replace hB := below_seq hB hk
      replace xf := xf.seq hk
      replace xa := xa.seq hk
      replace xb := xb.seq hk
      clear hk
      have xa0 := xa.cell 0 rfl
      have xaz0 := xa.frozen 0
      have xa1 := xa.cell 1 rfl
      have xaz1 := xa.frozen 1
      have xa2 := xa.cell 2 rfl
      have xaz2 := xa.frozen 2
      have xa3 := xa.cell 3 rfl
      have xaz3 := xa.frozen 3
      have xb0 := xb.cell 0 rfl
      have xbz0 := xb.frozen 0
      have xb1 := xb.cell 1 rfl
      have xbz1 := xb.frozen 1
      have xb2 := xb.cell 2 rfl
      have xbz2 := xb.frozen 2
      have xb3 := xb.cell 3 rfl
      have xbz3 := xb.frozen 3
      go_wp2
      go_ret
      exact ⟨rfl, hB⟩
    · by_cases heq : h.toNat = g.toNat
      · have TR1 := Lib.hid (fun (V : World) => (show Calls Try.prog 12 #[.agg #[.string A, .string Z, .int .i64 0, .int .i64 0, .int .i64 9]] V fun e W' => e = .returned (.tuple #[.agg #[.int .i64 0, .int .u64 (g.toNat : Int), .int .u64 (q.toNat : Int), .int .u64 (d.toNat : Int)], .int .i64 0]) ∧ Below V.heap.size V W' from by have h1 := reads A Z 0 (by decide) (bankG_is0 sg (fun x => by rw [sz] at x; cases x)) zg z48 V; rw [if_pos rfl, gg, lg] at h1; exact h1))
        have TR2 := Lib.hid (fun (V : World) => (show Calls Try.prog 12 #[.agg #[.string A, .string B, .int .i64 0, .int .i64 0, .int .i64 9]] V fun e W' => e = .returned (.tuple #[.agg #[.int .i64 0, .int .u64 (g.toNat : Int), .int .u64 (q.toNat : Int), .int .u64 (d.toNat : Int)], .int .i64 0]) ∧ Below V.heap.size V W' from by have h1 := reads A B 0 (by decide) (bankG_is0 sg (fun _ => by rw [gg, gh]; clear w2; omega)) zg zh V; rw [if_pos rfl, gg, lg] at h1; exact h1))
        clear reads sg sh lg lh gg gh zg zh sz z48
        have m1 : ¬ (h.toNat : Int) < (g.toNat : Int) := by clear w2; omega
        have m2 : ((h.toNat : Int) == (g.toNat : Int)) = true := beq_iff_eq.2 (by clear w2; omega)
        clear hlt heq
        have hB : Below W.heap.size W W := Below.refl _ _
        go_enter Try.func5, Try.ntmps5
        go_wp2_with fail
        refine (TN.out _).mono ?_
        rintro e V1 ⟨rfl, hk⟩
        replace hB := below_seq hB hk
        clear hk
        have xf := Box.new 25 V1 [.string Z, .string Z, .int .i64 0, .int .i64 0, .int .i64 9]
        have le_xf : W.heap.size ≤ V1.heap.size := hB.size
        replace hB := hB.alloc hB.size (.cells #[.string Z, .string Z, .int .i64 0, .int .i64 0, .int .i64 9] 25)
        have xf0 := xf.cell 0 rfl
        have xfz0 := xf.frozen 0
        have xf1 := xf.cell 1 rfl
        have xfz1 := xf.frozen 1
        have xf2 := xf.cell 2 rfl
        have xfz2 := xf.frozen 2
        have xf3 := xf.cell 3 rfl
        have xfz3 := xf.frozen 3
        have xf4 := xf.cell 4 rfl
        have xfz4 := xf.frozen 4
        go_wp2_with fail
        refine (T1.out _).mono ?_
        rintro e V2 ⟨rfl, hk⟩
        clear xf0 xfz0 xf1 xfz1 xf2 xfz2 xf3 xfz3 xf4 xfz4
        replace hB := below_seq hB hk
        replace xf := xf.seq hk
        clear hk
        have xf0 := xf.cell 0 rfl
        have xfz0 := xf.frozen 0
        have xf1 := xf.cell 1 rfl
        have xfz1 := xf.frozen 1
        have xf2 := xf.cell 2 rfl
        have xfz2 := xf.frozen 2
        have xf3 := xf.cell 3 rfl
        have xfz3 := xf.frozen 3
        have xf4 := xf.cell 4 rfl
        have xfz4 := xf.frozen 4
        go_wp2_with fail
        clear xf0 xfz0 xf1 xfz1 xf2 xfz2 xf3 xfz3 xf4 xfz4
        replace xf : Box 25 (V2.setCell ⟨V1.heap.size, 0, none⟩ (.string A)) (V1.heap.size) [.string A, .string Z, .int .i64 0, .int .i64 0, .int .i64 9] := (xf.set 0 (.string A))
        replace hB : Below W.heap.size W (V2.setCell ⟨V1.heap.size, 0, none⟩ (.string A)) := (hB.setCell le_xf _)
        generalize (V2.setCell ⟨V1.heap.size, 0, none⟩ (.string A)) = V3 at *
        have xf0 := xf.cell 0 rfl
        have xfz0 := xf.frozen 0
        have xf1 := xf.cell 1 rfl
        have xfz1 := xf.frozen 1
        have xf2 := xf.cell 2 rfl
        have xfz2 := xf.frozen 2
        have xf3 := xf.cell 3 rfl
        have xfz3 := xf.frozen 3
        have xf4 := xf.cell 4 rfl
        have xfz4 := xf.frozen 4
        refine (TR1.out _).mono ?_
        rintro e V4 ⟨rfl, hk⟩
        clear xf0 xfz0 xf1 xfz1 xf2 xfz2 xf3 xfz3 xf4 xfz4
        replace hB := below_seq hB hk
        replace xf := xf.seq hk
        clear hk
        have xa := Box.new 35 V4 [.int .i64 0, .int .u64 (g.toNat : Int), .int .u64 (q.toNat : Int), .int .u64 (d.toNat : Int)]
        have ne_xa_xf : V4.heap.size ≠ V1.heap.size := Nat.ne_of_gt xf.lt
        have le_xa : W.heap.size ≤ V4.heap.size := hB.size
        replace xf := xf.alloc (.cells #[.int .i64 0, .int .u64 (g.toNat : Int), .int .u64 (q.toNat : Int), .int .u64 (d.toNat : Int)] 35)
        replace hB := hB.alloc hB.size (.cells #[.int .i64 0, .int .u64 (g.toNat : Int), .int .u64 (q.toNat : Int), .int .u64 (d.toNat : Int)] 35)
        have xf0 := xf.cell 0 rfl
        have xfz0 := xf.frozen 0
        have xf1 := xf.cell 1 rfl
        have xfz1 := xf.frozen 1
        have xf2 := xf.cell 2 rfl
        have xfz2 := xf.frozen 2
        have xf3 := xf.cell 3 rfl
        have xfz3 := xf.frozen 3
        have xf4 := xf.cell 4 rfl
        have xfz4 := xf.frozen 4
        have xa0 := xa.cell 0 rfl
        have xaz0 := xa.frozen 0
        have xa1 := xa.cell 1 rfl
        have xaz1 := xa.frozen 1
        have xa2 := xa.cell 2 rfl
        have xaz2 := xa.frozen 2
        have xa3 := xa.cell 3 rfl
        have xaz3 := xa.frozen 3
        go_wp2_with fail
        refine (T2.out _).mono ?_
        rintro e V5 ⟨rfl, hk⟩
        clear xf0 xfz0 xf1 xfz1 xf2 xfz2 xf3 xfz3 xf4 xfz4 xa0 xaz0 xa1 xaz1 xa2 xaz2 xa3 xaz3
        replace hB := below_seq hB hk
        replace xf := xf.seq hk
        replace xa := xa.seq hk
        clear hk
        have xf0 := xf.cell 0 rfl
        have xfz0 := xf.frozen 0
        have xf1 := xf.cell 1 rfl
        have xfz1 := xf.frozen 1
        have xf2 := xf.cell 2 rfl
        have xfz2 := xf.frozen 2
        have xf3 := xf.cell 3 rfl
        have xfz3 := xf.frozen 3
        have xf4 := xf.cell 4 rfl
        have xfz4 := xf.frozen 4
        have xa0 := xa.cell 0 rfl
        have xaz0 := xa.frozen 0
        have xa1 := xa.cell 1 rfl
        have xaz1 := xa.frozen 1
        have xa2 := xa.cell 2 rfl
        have xaz2 := xa.frozen 2
        have xa3 := xa.cell 3 rfl
        have xaz3 := xa.frozen 3
        go_wp2_with fail
        clear xf0 xfz0 xf1 xfz1 xf2 xfz2 xf3 xfz3 xf4 xfz4 xa0 xaz0 xa1 xaz1 xa2 xaz2 xa3 xaz3
        replace xa : Box 35 (V5.setCell ⟨V1.heap.size, 1, none⟩ (.string B)) (V4.heap.size) [.int .i64 0, .int .u64 (g.toNat : Int), .int .u64 (q.toNat : Int), .int .u64 (d.toNat : Int)] := (xa.other (Ne.symm ne_xa_xf) 1 (.string B))
        replace xf : Box 25 (V5.setCell ⟨V1.heap.size, 1, none⟩ (.string B)) (V1.heap.size) [.string A, .string B, .int .i64 0, .int .i64 0, .int .i64 9] := (xf.set 1 (.string B))
        replace hB : Below W.heap.size W (V5.setCell ⟨V1.heap.size, 1, none⟩ (.string B)) := (hB.setCell le_xf _)
        generalize (V5.setCell ⟨V1.heap.size, 1, none⟩ (.string B)) = V6 at *
        have xf0 := xf.cell 0 rfl
        have xfz0 := xf.frozen 0
        have xf1 := xf.cell 1 rfl
        have xfz1 := xf.frozen 1
        have xf2 := xf.cell 2 rfl
        have xfz2 := xf.frozen 2
        have xf3 := xf.cell 3 rfl
        have xfz3 := xf.frozen 3
        have xf4 := xf.cell 4 rfl
        have xfz4 := xf.frozen 4
        have xa0 := xa.cell 0 rfl
        have xaz0 := xa.frozen 0
        have xa1 := xa.cell 1 rfl
        have xaz1 := xa.frozen 1
        have xa2 := xa.cell 2 rfl
        have xaz2 := xa.frozen 2
        have xa3 := xa.cell 3 rfl
        have xaz3 := xa.frozen 3
        refine (TR2.out _).mono ?_
        rintro e V7 ⟨rfl, hk⟩
        clear xf0 xfz0 xf1 xfz1 xf2 xfz2 xf3 xfz3 xf4 xfz4 xa0 xaz0 xa1 xaz1 xa2 xaz2 xa3 xaz3
        replace hB := below_seq hB hk
        replace xf := xf.seq hk
        replace xa := xa.seq hk
        clear hk
        have xb := Box.new 35 V7 [.int .i64 0, .int .u64 (g.toNat : Int), .int .u64 (q.toNat : Int), .int .u64 (d.toNat : Int)]
        have ne_xb_xf : V7.heap.size ≠ V1.heap.size := Nat.ne_of_gt xf.lt
        have ne_xb_xa : V7.heap.size ≠ V4.heap.size := Nat.ne_of_gt xa.lt
        have le_xb : W.heap.size ≤ V7.heap.size := hB.size
        replace xf := xf.alloc (.cells #[.int .i64 0, .int .u64 (g.toNat : Int), .int .u64 (q.toNat : Int), .int .u64 (d.toNat : Int)] 35)
        replace xa := xa.alloc (.cells #[.int .i64 0, .int .u64 (g.toNat : Int), .int .u64 (q.toNat : Int), .int .u64 (d.toNat : Int)] 35)
        replace hB := hB.alloc hB.size (.cells #[.int .i64 0, .int .u64 (g.toNat : Int), .int .u64 (q.toNat : Int), .int .u64 (d.toNat : Int)] 35)
        have xf0 := xf.cell 0 rfl
        have xfz0 := xf.frozen 0
        have xf1 := xf.cell 1 rfl
        have xfz1 := xf.frozen 1
        have xf2 := xf.cell 2 rfl
        have xfz2 := xf.frozen 2
        have xf3 := xf.cell 3 rfl
        have xfz3 := xf.frozen 3
        have xf4 := xf.cell 4 rfl
        have xfz4 := xf.frozen 4
        have xa0 := xa.cell 0 rfl
        have xaz0 := xa.frozen 0
        have xa1 := xa.cell 1 rfl
        have xaz1 := xa.frozen 1
        have xa2 := xa.cell 2 rfl
        have xaz2 := xa.frozen 2
        have xa3 := xa.cell 3 rfl
        have xaz3 := xa.frozen 3
        have xb0 := xb.cell 0 rfl
        have xbz0 := xb.frozen 0
        have xb1 := xb.cell 1 rfl
        have xbz1 := xb.frozen 1
        have xb2 := xb.cell 2 rfl
        have xbz2 := xb.frozen 2
        have xb3 := xb.cell 3 rfl
        have xbz3 := xb.frozen 3
        clear xf0 xfz0 xf1 xfz1 xf2 xfz2 xf3 xfz3 xf4 xfz4 xa0 xaz0 xa1 xaz1 xa2 xaz2 xa3 xaz3 xb0 xbz0 xb1 xbz1 xb2 xbz2 xb3 xbz3
        have xa0 := xa.cell 0 rfl
        have xaz0 := xa.frozen 0
        have xa1 := xa.cell 1 rfl
        have xaz1 := xa.frozen 1
        have xa2 := xa.cell 2 rfl
        have xaz2 := xa.frozen 2
        have xa3 := xa.cell 3 rfl
        have xaz3 := xa.frozen 3
        have xb0 := xb.cell 0 rfl
        have xbz0 := xb.frozen 0
        have xb1 := xb.cell 1 rfl
        have xbz1 := xb.frozen 1
        have xb2 := xb.cell 2 rfl
        have xbz2 := xb.frozen 2
        have xb3 := xb.cell 3 rfl
        have xbz3 := xb.frozen 3
        go_wp2_with fail
        refine (shown10 _).mono ?_
        rintro e V8 ⟨rfl, hk⟩
        clear xa0 xaz0 xa1 xaz1 xa2 xaz2 xa3 xaz3 xb0 xbz0 xb1 xbz1 xb2 xbz2 xb3 xbz3
        replace hB := below_seq hB hk
        replace xf := xf.seq hk
        replace xa := xa.seq hk
        replace xb := xb.seq hk
        clear hk
        have xa0 := xa.cell 0 rfl
        have xaz0 := xa.frozen 0
        have xa1 := xa.cell 1 rfl
        have xaz1 := xa.frozen 1
        have xa2 := xa.cell 2 rfl
        have xaz2 := xa.frozen 2
        have xa3 := xa.cell 3 rfl
        have xaz3 := xa.frozen 3
        have xb0 := xb.cell 0 rfl
        have xbz0 := xb.frozen 0
        have xb1 := xb.cell 1 rfl
        have xbz1 := xb.frozen 1
        have xb2 := xb.cell 2 rfl
        have xbz2 := xb.frozen 2
        have xb3 := xb.cell 3 rfl
        have xbz3 := xb.frozen 3
        go_wp2
        go_ret
        exact ⟨rfl, hB⟩
      · have TR1 := Lib.hid (fun (V : World) => (show Calls Try.prog 12 #[.agg #[.string A, .string Z, .int .i64 0, .int .i64 0, .int .i64 9]] V fun e W' => e = .returned (.tuple #[.agg #[.int .i64 0, .int .u64 (g.toNat : Int), .int .u64 (q.toNat : Int), .int .u64 (d.toNat : Int)], .int .i64 0]) ∧ Below V.heap.size V W' from by have h1 := reads A Z 0 (by decide) (bankG_is0 sg (fun x => by rw [sz] at x; cases x)) zg z48 V; rw [if_pos rfl, gg, lg] at h1; exact h1))
        have TR2 := Lib.hid (fun (V : World) => (show Calls Try.prog 12 #[.agg #[.string A, .string B, .int .i64 0, .int .i64 0, .int .i64 9]] V fun e W' => e = .returned (.tuple #[.agg #[.int .i64 1, .int .u64 (h.toNat : Int), .int .u64 (q.toNat : Int), .int .u64 (d1 : Int)], .int .i64 0]) ∧ Below V.heap.size V W' from by have h1 := reads A B 1 (by decide) (bankG_is1 sh (fun _ => by rw [gg, gh]; clear w2; omega)) zg zh V; rw [if_neg (by decide), gh, lh] at h1; exact h1))
        clear reads sg sh lg lh gg gh zg zh sz z48
        have m1 : ¬ (h.toNat : Int) < (g.toNat : Int) := by clear w2; omega
        have m2 : ((h.toNat : Int) == (g.toNat : Int)) = false := beq_eq_false_iff_ne.2 (by clear w2; omega)
        clear hlt heq
        have hB : Below W.heap.size W W := Below.refl _ _
        go_enter Try.func5, Try.ntmps5
        go_wp2_with fail
        refine (TN.out _).mono ?_
        rintro e V1 ⟨rfl, hk⟩
        replace hB := below_seq hB hk
        clear hk
        have xf := Box.new 25 V1 [.string Z, .string Z, .int .i64 0, .int .i64 0, .int .i64 9]
        have le_xf : W.heap.size ≤ V1.heap.size := hB.size
        replace hB := hB.alloc hB.size (.cells #[.string Z, .string Z, .int .i64 0, .int .i64 0, .int .i64 9] 25)
        have xf0 := xf.cell 0 rfl
        have xfz0 := xf.frozen 0
        have xf1 := xf.cell 1 rfl
        have xfz1 := xf.frozen 1
        have xf2 := xf.cell 2 rfl
        have xfz2 := xf.frozen 2
        have xf3 := xf.cell 3 rfl
        have xfz3 := xf.frozen 3
        have xf4 := xf.cell 4 rfl
        have xfz4 := xf.frozen 4
        go_wp2_with fail
        refine (T1.out _).mono ?_
        rintro e V2 ⟨rfl, hk⟩
        clear xf0 xfz0 xf1 xfz1 xf2 xfz2 xf3 xfz3 xf4 xfz4
        replace hB := below_seq hB hk
        replace xf := xf.seq hk
        clear hk
        have xf0 := xf.cell 0 rfl
        have xfz0 := xf.frozen 0
        have xf1 := xf.cell 1 rfl
        have xfz1 := xf.frozen 1
        have xf2 := xf.cell 2 rfl
        have xfz2 := xf.frozen 2
        have xf3 := xf.cell 3 rfl
        have xfz3 := xf.frozen 3
        have xf4 := xf.cell 4 rfl
        have xfz4 := xf.frozen 4
        go_wp2_with fail
        clear xf0 xfz0 xf1 xfz1 xf2 xfz2 xf3 xfz3 xf4 xfz4
        replace xf : Box 25 (V2.setCell ⟨V1.heap.size, 0, none⟩ (.string A)) (V1.heap.size) [.string A, .string Z, .int .i64 0, .int .i64 0, .int .i64 9] := (xf.set 0 (.string A))
        replace hB : Below W.heap.size W (V2.setCell ⟨V1.heap.size, 0, none⟩ (.string A)) := (hB.setCell le_xf _)
        generalize (V2.setCell ⟨V1.heap.size, 0, none⟩ (.string A)) = V3 at *
        have xf0 := xf.cell 0 rfl
        have xfz0 := xf.frozen 0
        have xf1 := xf.cell 1 rfl
        have xfz1 := xf.frozen 1
        have xf2 := xf.cell 2 rfl
        have xfz2 := xf.frozen 2
        have xf3 := xf.cell 3 rfl
        have xfz3 := xf.frozen 3
        have xf4 := xf.cell 4 rfl
        have xfz4 := xf.frozen 4
        refine (TR1.out _).mono ?_
        rintro e V4 ⟨rfl, hk⟩
        clear xf0 xfz0 xf1 xfz1 xf2 xfz2 xf3 xfz3 xf4 xfz4
        replace hB := below_seq hB hk
        replace xf := xf.seq hk
        clear hk
        have xa := Box.new 35 V4 [.int .i64 0, .int .u64 (g.toNat : Int), .int .u64 (q.toNat : Int), .int .u64 (d.toNat : Int)]
        have ne_xa_xf : V4.heap.size ≠ V1.heap.size := Nat.ne_of_gt xf.lt
        have le_xa : W.heap.size ≤ V4.heap.size := hB.size
        replace xf := xf.alloc (.cells #[.int .i64 0, .int .u64 (g.toNat : Int), .int .u64 (q.toNat : Int), .int .u64 (d.toNat : Int)] 35)
        replace hB := hB.alloc hB.size (.cells #[.int .i64 0, .int .u64 (g.toNat : Int), .int .u64 (q.toNat : Int), .int .u64 (d.toNat : Int)] 35)
        have xf0 := xf.cell 0 rfl
        have xfz0 := xf.frozen 0
        have xf1 := xf.cell 1 rfl
        have xfz1 := xf.frozen 1
        have xf2 := xf.cell 2 rfl
        have xfz2 := xf.frozen 2
        have xf3 := xf.cell 3 rfl
        have xfz3 := xf.frozen 3
        have xf4 := xf.cell 4 rfl
        have xfz4 := xf.frozen 4
        have xa0 := xa.cell 0 rfl
        have xaz0 := xa.frozen 0
        have xa1 := xa.cell 1 rfl
        have xaz1 := xa.frozen 1
        have xa2 := xa.cell 2 rfl
        have xaz2 := xa.frozen 2
        have xa3 := xa.cell 3 rfl
        have xaz3 := xa.frozen 3
        go_wp2_with fail
        refine (T2.out _).mono ?_
        rintro e V5 ⟨rfl, hk⟩
        clear xf0 xfz0 xf1 xfz1 xf2 xfz2 xf3 xfz3 xf4 xfz4 xa0 xaz0 xa1 xaz1 xa2 xaz2 xa3 xaz3
        replace hB := below_seq hB hk
        replace xf := xf.seq hk
        replace xa := xa.seq hk
        clear hk
        have xf0 := xf.cell 0 rfl
        have xfz0 := xf.frozen 0
        have xf1 := xf.cell 1 rfl
        have xfz1 := xf.frozen 1
        have xf2 := xf.cell 2 rfl
        have xfz2 := xf.frozen 2
        have xf3 := xf.cell 3 rfl
        have xfz3 := xf.frozen 3
        have xf4 := xf.cell 4 rfl
        have xfz4 := xf.frozen 4
        have xa0 := xa.cell 0 rfl
        have xaz0 := xa.frozen 0
        have xa1 := xa.cell 1 rfl
        have xaz1 := xa.frozen 1
        have xa2 := xa.cell 2 rfl
        have xaz2 := xa.frozen 2
        have xa3 := xa.cell 3 rfl
        have xaz3 := xa.frozen 3
        go_wp2_with fail
        clear xf0 xfz0 xf1 xfz1 xf2 xfz2 xf3 xfz3 xf4 xfz4 xa0 xaz0 xa1 xaz1 xa2 xaz2 xa3 xaz3
        replace xa : Box 35 (V5.setCell ⟨V1.heap.size, 1, none⟩ (.string B)) (V4.heap.size) [.int .i64 0, .int .u64 (g.toNat : Int), .int .u64 (q.toNat : Int), .int .u64 (d.toNat : Int)] := (xa.other (Ne.symm ne_xa_xf) 1 (.string B))
        replace xf : Box 25 (V5.setCell ⟨V1.heap.size, 1, none⟩ (.string B)) (V1.heap.size) [.string A, .string B, .int .i64 0, .int .i64 0, .int .i64 9] := (xf.set 1 (.string B))
        replace hB : Below W.heap.size W (V5.setCell ⟨V1.heap.size, 1, none⟩ (.string B)) := (hB.setCell le_xf _)
        generalize (V5.setCell ⟨V1.heap.size, 1, none⟩ (.string B)) = V6 at *
        have xf0 := xf.cell 0 rfl
        have xfz0 := xf.frozen 0
        have xf1 := xf.cell 1 rfl
        have xfz1 := xf.frozen 1
        have xf2 := xf.cell 2 rfl
        have xfz2 := xf.frozen 2
        have xf3 := xf.cell 3 rfl
        have xfz3 := xf.frozen 3
        have xf4 := xf.cell 4 rfl
        have xfz4 := xf.frozen 4
        have xa0 := xa.cell 0 rfl
        have xaz0 := xa.frozen 0
        have xa1 := xa.cell 1 rfl
        have xaz1 := xa.frozen 1
        have xa2 := xa.cell 2 rfl
        have xaz2 := xa.frozen 2
        have xa3 := xa.cell 3 rfl
        have xaz3 := xa.frozen 3
        refine (TR2.out _).mono ?_
        rintro e V7 ⟨rfl, hk⟩
        clear xf0 xfz0 xf1 xfz1 xf2 xfz2 xf3 xfz3 xf4 xfz4 xa0 xaz0 xa1 xaz1 xa2 xaz2 xa3 xaz3
        replace hB := below_seq hB hk
        replace xf := xf.seq hk
        replace xa := xa.seq hk
        clear hk
        have xb := Box.new 35 V7 [.int .i64 1, .int .u64 (h.toNat : Int), .int .u64 (q.toNat : Int), .int .u64 (d1 : Int)]
        have ne_xb_xf : V7.heap.size ≠ V1.heap.size := Nat.ne_of_gt xf.lt
        have ne_xb_xa : V7.heap.size ≠ V4.heap.size := Nat.ne_of_gt xa.lt
        have le_xb : W.heap.size ≤ V7.heap.size := hB.size
        replace xf := xf.alloc (.cells #[.int .i64 1, .int .u64 (h.toNat : Int), .int .u64 (q.toNat : Int), .int .u64 (d1 : Int)] 35)
        replace xa := xa.alloc (.cells #[.int .i64 1, .int .u64 (h.toNat : Int), .int .u64 (q.toNat : Int), .int .u64 (d1 : Int)] 35)
        replace hB := hB.alloc hB.size (.cells #[.int .i64 1, .int .u64 (h.toNat : Int), .int .u64 (q.toNat : Int), .int .u64 (d1 : Int)] 35)
        have xf0 := xf.cell 0 rfl
        have xfz0 := xf.frozen 0
        have xf1 := xf.cell 1 rfl
        have xfz1 := xf.frozen 1
        have xf2 := xf.cell 2 rfl
        have xfz2 := xf.frozen 2
        have xf3 := xf.cell 3 rfl
        have xfz3 := xf.frozen 3
        have xf4 := xf.cell 4 rfl
        have xfz4 := xf.frozen 4
        have xa0 := xa.cell 0 rfl
        have xaz0 := xa.frozen 0
        have xa1 := xa.cell 1 rfl
        have xaz1 := xa.frozen 1
        have xa2 := xa.cell 2 rfl
        have xaz2 := xa.frozen 2
        have xa3 := xa.cell 3 rfl
        have xaz3 := xa.frozen 3
        have xb0 := xb.cell 0 rfl
        have xbz0 := xb.frozen 0
        have xb1 := xb.cell 1 rfl
        have xbz1 := xb.frozen 1
        have xb2 := xb.cell 2 rfl
        have xbz2 := xb.frozen 2
        have xb3 := xb.cell 3 rfl
        have xbz3 := xb.frozen 3
        clear xf0 xfz0 xf1 xfz1 xf2 xfz2 xf3 xfz3 xf4 xfz4 xa0 xaz0 xa1 xaz1 xa2 xaz2 xa3 xaz3 xb0 xbz0 xb1 xbz1 xb2 xbz2 xb3 xbz3
        have xa0 := xa.cell 0 rfl
        have xaz0 := xa.frozen 0
        have xa1 := xa.cell 1 rfl
        have xaz1 := xa.frozen 1
        have xa2 := xa.cell 2 rfl
        have xaz2 := xa.frozen 2
        have xa3 := xa.cell 3 rfl
        have xaz3 := xa.frozen 3
        have xb0 := xb.cell 0 rfl
        have xbz0 := xb.frozen 0
        have xb1 := xb.cell 1 rfl
        have xbz1 := xb.frozen 1
        have xb2 := xb.cell 2 rfl
        have xbz2 := xb.frozen 2
        have xb3 := xb.cell 3 rfl
        have xbz3 := xb.frozen 3
        go_wp2_with fail
        refine (shown10 _).mono ?_
        rintro e V8 ⟨rfl, hk⟩
        clear xa0 xaz0 xa1 xaz1 xa2 xaz2 xa3 xaz3 xb0 xbz0 xb1 xbz1 xb2 xbz2 xb3 xbz3
        replace hB := below_seq hB hk
        replace xf := xf.seq hk
        replace xa := xa.seq hk
        replace xb := xb.seq hk
        clear hk
        have xa0 := xa.cell 0 rfl
        have xaz0 := xa.frozen 0
        have xa1 := xa.cell 1 rfl
        have xaz1 := xa.frozen 1
        have xa2 := xa.cell 2 rfl
        have xaz2 := xa.frozen 2
        have xa3 := xa.cell 3 rfl
        have xaz3 := xa.frozen 3
        have xb0 := xb.cell 0 rfl
        have xbz0 := xb.frozen 0
        have xb1 := xb.cell 1 rfl
        have xbz1 := xb.frozen 1
        have xb2 := xb.cell 2 rfl
        have xbz2 := xb.frozen 2
        have xb3 := xb.cell 3 rfl
        have xbz3 := xb.frozen 3
        go_wp2
        go_ret
        exact ⟨rfl, hB⟩
  · by_cases hlt : h.toNat < g.toNat
    · have TR1 := Lib.hid (fun (V : World) => (show Calls Try.prog 12 #[.agg #[.string Z, .string A, .int .i64 0, .int .i64 0, .int .i64 9]] V fun e W' => e = .returned (.tuple #[.agg #[.int .i64 1, .int .u64 (g.toNat : Int), .int .u64 (q.toNat : Int), .int .u64 (d.toNat : Int)], .int .i64 0]) ∧ Below V.heap.size V W' from by have h1 := reads Z A 1 (by decide) (bankG_is1 sg (fun x => by rw [sz] at x; cases x)) z48 zg V; rw [if_neg (by decide), gg, lg] at h1; exact h1))
      have TR2 := Lib.hid (fun (V : World) => (show Calls Try.prog 12 #[.agg #[.string B, .string A, .int .i64 0, .int .i64 0, .int .i64 9]] V fun e W' => e = .returned (.tuple #[.agg #[.int .i64 1, .int .u64 (g.toNat : Int), .int .u64 (q.toNat : Int), .int .u64 (d.toNat : Int)], .int .i64 0]) ∧ Below V.heap.size V W' from by have h1 := reads B A 1 (by decide) (bankG_is1 sg (fun _ => by rw [gg, gh]; clear w2; omega)) zh zg V; rw [if_neg (by decide), gg, lg] at h1; exact h1))
      clear reads sg sh lg lh gg gh zg zh sz z48
      have m1 : (h.toNat : Int) < (g.toNat : Int) := by clear w2; omega
      clear hlt
      have hB : Below W.heap.size W W := Below.refl _ _
      go_enter Try.func5, Try.ntmps5
      go_wp2_with fail
      refine (TN.out _).mono ?_
      rintro e V1 ⟨rfl, hk⟩
      replace hB := below_seq hB hk
      clear hk
      have xf := Box.new 25 V1 [.string Z, .string Z, .int .i64 0, .int .i64 0, .int .i64 9]
      have le_xf : W.heap.size ≤ V1.heap.size := hB.size
      replace hB := hB.alloc hB.size (.cells #[.string Z, .string Z, .int .i64 0, .int .i64 0, .int .i64 9] 25)
      have xf0 := xf.cell 0 rfl
      have xfz0 := xf.frozen 0
      have xf1 := xf.cell 1 rfl
      have xfz1 := xf.frozen 1
      have xf2 := xf.cell 2 rfl
      have xfz2 := xf.frozen 2
      have xf3 := xf.cell 3 rfl
      have xfz3 := xf.frozen 3
      have xf4 := xf.cell 4 rfl
      have xfz4 := xf.frozen 4
      go_wp2_with fail
      refine (T1.out _).mono ?_
      rintro e V2 ⟨rfl, hk⟩
      clear xf0 xfz0 xf1 xfz1 xf2 xfz2 xf3 xfz3 xf4 xfz4
      replace hB := below_seq hB hk
      replace xf := xf.seq hk
      clear hk
      have xf0 := xf.cell 0 rfl
      have xfz0 := xf.frozen 0
      have xf1 := xf.cell 1 rfl
      have xfz1 := xf.frozen 1
      have xf2 := xf.cell 2 rfl
      have xfz2 := xf.frozen 2
      have xf3 := xf.cell 3 rfl
      have xfz3 := xf.frozen 3
      have xf4 := xf.cell 4 rfl
      have xfz4 := xf.frozen 4
      go_wp2_with fail
      clear xf0 xfz0 xf1 xfz1 xf2 xfz2 xf3 xfz3 xf4 xfz4
      replace xf : Box 25 (V2.setCell ⟨V1.heap.size, 1, none⟩ (.string A)) (V1.heap.size) [.string Z, .string A, .int .i64 0, .int .i64 0, .int .i64 9] := (xf.set 1 (.string A))
      replace hB : Below W.heap.size W (V2.setCell ⟨V1.heap.size, 1, none⟩ (.string A)) := (hB.setCell le_xf _)
      generalize (V2.setCell ⟨V1.heap.size, 1, none⟩ (.string A)) = V3 at *
      have xf0 := xf.cell 0 rfl
      have xfz0 := xf.frozen 0
      have xf1 := xf.cell 1 rfl
      have xfz1 := xf.frozen 1
      have xf2 := xf.cell 2 rfl
      have xfz2 := xf.frozen 2
      have xf3 := xf.cell 3 rfl
      have xfz3 := xf.frozen 3
      have xf4 := xf.cell 4 rfl
      have xfz4 := xf.frozen 4
      refine (TR1.out _).mono ?_
      rintro e V4 ⟨rfl, hk⟩
      clear xf0 xfz0 xf1 xfz1 xf2 xfz2 xf3 xfz3 xf4 xfz4
      replace hB := below_seq hB hk
      replace xf := xf.seq hk
      clear hk
      have xa := Box.new 35 V4 [.int .i64 1, .int .u64 (g.toNat : Int), .int .u64 (q.toNat : Int), .int .u64 (d.toNat : Int)]
      have ne_xa_xf : V4.heap.size ≠ V1.heap.size := Nat.ne_of_gt xf.lt
      have le_xa : W.heap.size ≤ V4.heap.size := hB.size
      replace xf := xf.alloc (.cells #[.int .i64 1, .int .u64 (g.toNat : Int), .int .u64 (q.toNat : Int), .int .u64 (d.toNat : Int)] 35)
      replace hB := hB.alloc hB.size (.cells #[.int .i64 1, .int .u64 (g.toNat : Int), .int .u64 (q.toNat : Int), .int .u64 (d.toNat : Int)] 35)
      have xf0 := xf.cell 0 rfl
      have xfz0 := xf.frozen 0
      have xf1 := xf.cell 1 rfl
      have xfz1 := xf.frozen 1
      have xf2 := xf.cell 2 rfl
      have xfz2 := xf.frozen 2
      have xf3 := xf.cell 3 rfl
      have xfz3 := xf.frozen 3
      have xf4 := xf.cell 4 rfl
      have xfz4 := xf.frozen 4
      have xa0 := xa.cell 0 rfl
      have xaz0 := xa.frozen 0
      have xa1 := xa.cell 1 rfl
      have xaz1 := xa.frozen 1
      have xa2 := xa.cell 2 rfl
      have xaz2 := xa.frozen 2
      have xa3 := xa.cell 3 rfl
      have xaz3 := xa.frozen 3
      go_wp2_with fail
      refine (T2.out _).mono ?_
      rintro e V5 ⟨rfl, hk⟩
      clear xf0 xfz0 xf1 xfz1 xf2 xfz2 xf3 xfz3 xf4 xfz4 xa0 xaz0 xa1 xaz1 xa2 xaz2 xa3 xaz3
      replace hB := below_seq hB hk
      replace xf := xf.seq hk
      replace xa := xa.seq hk
      clear hk
      have xf0 := xf.cell 0 rfl
      have xfz0 := xf.frozen 0
      have xf1 := xf.cell 1 rfl
      have xfz1 := xf.frozen 1
      have xf2 := xf.cell 2 rfl
      have xfz2 := xf.frozen 2
      have xf3 := xf.cell 3 rfl
      have xfz3 := xf.frozen 3
      have xf4 := xf.cell 4 rfl
      have xfz4 := xf.frozen 4
      have xa0 := xa.cell 0 rfl
      have xaz0 := xa.frozen 0
      have xa1 := xa.cell 1 rfl
      have xaz1 := xa.frozen 1
      have xa2 := xa.cell 2 rfl
      have xaz2 := xa.frozen 2
      have xa3 := xa.cell 3 rfl
      have xaz3 := xa.frozen 3
      go_wp2_with fail
      clear xf0 xfz0 xf1 xfz1 xf2 xfz2 xf3 xfz3 xf4 xfz4 xa0 xaz0 xa1 xaz1 xa2 xaz2 xa3 xaz3
      replace xa : Box 35 (V5.setCell ⟨V1.heap.size, 0, none⟩ (.string B)) (V4.heap.size) [.int .i64 1, .int .u64 (g.toNat : Int), .int .u64 (q.toNat : Int), .int .u64 (d.toNat : Int)] := (xa.other (Ne.symm ne_xa_xf) 0 (.string B))
      replace xf : Box 25 (V5.setCell ⟨V1.heap.size, 0, none⟩ (.string B)) (V1.heap.size) [.string B, .string A, .int .i64 0, .int .i64 0, .int .i64 9] := (xf.set 0 (.string B))
      replace hB : Below W.heap.size W (V5.setCell ⟨V1.heap.size, 0, none⟩ (.string B)) := (hB.setCell le_xf _)
      generalize (V5.setCell ⟨V1.heap.size, 0, none⟩ (.string B)) = V6 at *
      have xf0 := xf.cell 0 rfl
      have xfz0 := xf.frozen 0
      have xf1 := xf.cell 1 rfl
      have xfz1 := xf.frozen 1
      have xf2 := xf.cell 2 rfl
      have xfz2 := xf.frozen 2
      have xf3 := xf.cell 3 rfl
      have xfz3 := xf.frozen 3
      have xf4 := xf.cell 4 rfl
      have xfz4 := xf.frozen 4
      have xa0 := xa.cell 0 rfl
      have xaz0 := xa.frozen 0
      have xa1 := xa.cell 1 rfl
      have xaz1 := xa.frozen 1
      have xa2 := xa.cell 2 rfl
      have xaz2 := xa.frozen 2
      have xa3 := xa.cell 3 rfl
      have xaz3 := xa.frozen 3
      refine (TR2.out _).mono ?_
      rintro e V7 ⟨rfl, hk⟩
      clear xf0 xfz0 xf1 xfz1 xf2 xfz2 xf3 xfz3 xf4 xfz4 xa0 xaz0 xa1 xaz1 xa2 xaz2 xa3 xaz3
      replace hB := below_seq hB hk
      replace xf := xf.seq hk
      replace xa := xa.seq hk
      clear hk
      have xb := Box.new 35 V7 [.int .i64 1, .int .u64 (g.toNat : Int), .int .u64 (q.toNat : Int), .int .u64 (d.toNat : Int)]
      have ne_xb_xf : V7.heap.size ≠ V1.heap.size := Nat.ne_of_gt xf.lt
      have ne_xb_xa : V7.heap.size ≠ V4.heap.size := Nat.ne_of_gt xa.lt
      have le_xb : W.heap.size ≤ V7.heap.size := hB.size
      replace xf := xf.alloc (.cells #[.int .i64 1, .int .u64 (g.toNat : Int), .int .u64 (q.toNat : Int), .int .u64 (d.toNat : Int)] 35)
      replace xa := xa.alloc (.cells #[.int .i64 1, .int .u64 (g.toNat : Int), .int .u64 (q.toNat : Int), .int .u64 (d.toNat : Int)] 35)
      replace hB := hB.alloc hB.size (.cells #[.int .i64 1, .int .u64 (g.toNat : Int), .int .u64 (q.toNat : Int), .int .u64 (d.toNat : Int)] 35)
      have xf0 := xf.cell 0 rfl
      have xfz0 := xf.frozen 0
      have xf1 := xf.cell 1 rfl
      have xfz1 := xf.frozen 1
      have xf2 := xf.cell 2 rfl
      have xfz2 := xf.frozen 2
      have xf3 := xf.cell 3 rfl
      have xfz3 := xf.frozen 3
      have xf4 := xf.cell 4 rfl
      have xfz4 := xf.frozen 4
      have xa0 := xa.cell 0 rfl
      have xaz0 := xa.frozen 0
      have xa1 := xa.cell 1 rfl
      have xaz1 := xa.frozen 1
      have xa2 := xa.cell 2 rfl
      have xaz2 := xa.frozen 2
      have xa3 := xa.cell 3 rfl
      have xaz3 := xa.frozen 3
      have xb0 := xb.cell 0 rfl
      have xbz0 := xb.frozen 0
      have xb1 := xb.cell 1 rfl
      have xbz1 := xb.frozen 1
      have xb2 := xb.cell 2 rfl
      have xbz2 := xb.frozen 2
      have xb3 := xb.cell 3 rfl
      have xbz3 := xb.frozen 3
      clear xf0 xfz0 xf1 xfz1 xf2 xfz2 xf3 xfz3 xf4 xfz4 xa0 xaz0 xa1 xaz1 xa2 xaz2 xa3 xaz3 xb0 xbz0 xb1 xbz1 xb2 xbz2 xb3 xbz3
      have xa0 := xa.cell 0 rfl
      have xaz0 := xa.frozen 0
      have xa1 := xa.cell 1 rfl
      have xaz1 := xa.frozen 1
      have xa2 := xa.cell 2 rfl
      have xaz2 := xa.frozen 2
      have xa3 := xa.cell 3 rfl
      have xaz3 := xa.frozen 3
      have xb0 := xb.cell 0 rfl
      have xbz0 := xb.frozen 0
      have xb1 := xb.cell 1 rfl
      have xbz1 := xb.frozen 1
      have xb2 := xb.cell 2 rfl
      have xbz2 := xb.frozen 2
      have xb3 := xb.cell 3 rfl
      have xbz3 := xb.frozen 3
      go_wp2_with fail
      refine (shown10 _).mono ?_
      rintro e V8 ⟨rfl, hk⟩
      clear xa0 xaz0 xa1 xaz1 xa2 xaz2 xa3 xaz3 xb0 xbz0 xb1 xbz1 xb2 xbz2 xb3 xbz3
      replace hB := below_seq hB hk
      replace xf := xf.seq hk
      replace xa := xa.seq hk
      replace xb := xb.seq hk
      clear hk
      have xa0 := xa.cell 0 rfl
      have xaz0 := xa.frozen 0
      have xa1 := xa.cell 1 rfl
      have xaz1 := xa.frozen 1
      have xa2 := xa.cell 2 rfl
      have xaz2 := xa.frozen 2
      have xa3 := xa.cell 3 rfl
      have xaz3 := xa.frozen 3
      have xb0 := xb.cell 0 rfl
      have xbz0 := xb.frozen 0
      have xb1 := xb.cell 1 rfl
      have xbz1 := xb.frozen 1
      have xb2 := xb.cell 2 rfl
      have xbz2 := xb.frozen 2
      have xb3 := xb.cell 3 rfl
      have xbz3 := xb.frozen 3
      go_wp2
      go_ret
      exact ⟨rfl, hB⟩
    · by_cases heq : h.toNat = g.toNat
      · have TR1 := Lib.hid (fun (V : World) => (show Calls Try.prog 12 #[.agg #[.string Z, .string A, .int .i64 0, .int .i64 0, .int .i64 9]] V fun e W' => e = .returned (.tuple #[.agg #[.int .i64 1, .int .u64 (g.toNat : Int), .int .u64 (q.toNat : Int), .int .u64 (d.toNat : Int)], .int .i64 0]) ∧ Below V.heap.size V W' from by have h1 := reads Z A 1 (by decide) (bankG_is1 sg (fun x => by rw [sz] at x; cases x)) z48 zg V; rw [if_neg (by decide), gg, lg] at h1; exact h1))
        have TR2 := Lib.hid (fun (V : World) => (show Calls Try.prog 12 #[.agg #[.string B, .string A, .int .i64 0, .int .i64 0, .int .i64 9]] V fun e W' => e = .returned (.tuple #[.agg #[.int .i64 0, .int .u64 (h.toNat : Int), .int .u64 (q.toNat : Int), .int .u64 (d1 : Int)], .int .i64 0]) ∧ Below V.heap.size V W' from by have h1 := reads B A 0 (by decide) (bankG_is0 sh (fun _ => by rw [gg, gh]; clear w2; omega)) zh zg V; rw [if_pos rfl, gh, lh] at h1; exact h1))
        clear reads sg sh lg lh gg gh zg zh sz z48
        have m1 : ¬ (h.toNat : Int) < (g.toNat : Int) := by clear w2; omega
        have m2 : ((h.toNat : Int) == (g.toNat : Int)) = true := beq_iff_eq.2 (by clear w2; omega)
        clear hlt heq
        have hB : Below W.heap.size W W := Below.refl _ _
        go_enter Try.func5, Try.ntmps5
        go_wp2_with fail
        refine (TN.out _).mono ?_
        rintro e V1 ⟨rfl, hk⟩
        replace hB := below_seq hB hk
        clear hk
        have xf := Box.new 25 V1 [.string Z, .string Z, .int .i64 0, .int .i64 0, .int .i64 9]
        have le_xf : W.heap.size ≤ V1.heap.size := hB.size
        replace hB := hB.alloc hB.size (.cells #[.string Z, .string Z, .int .i64 0, .int .i64 0, .int .i64 9] 25)
        have xf0 := xf.cell 0 rfl
        have xfz0 := xf.frozen 0
        have xf1 := xf.cell 1 rfl
        have xfz1 := xf.frozen 1
        have xf2 := xf.cell 2 rfl
        have xfz2 := xf.frozen 2
        have xf3 := xf.cell 3 rfl
        have xfz3 := xf.frozen 3
        have xf4 := xf.cell 4 rfl
        have xfz4 := xf.frozen 4
        go_wp2_with fail
        refine (T1.out _).mono ?_
        rintro e V2 ⟨rfl, hk⟩
        clear xf0 xfz0 xf1 xfz1 xf2 xfz2 xf3 xfz3 xf4 xfz4
        replace hB := below_seq hB hk
        replace xf := xf.seq hk
        clear hk
        have xf0 := xf.cell 0 rfl
        have xfz0 := xf.frozen 0
        have xf1 := xf.cell 1 rfl
        have xfz1 := xf.frozen 1
        have xf2 := xf.cell 2 rfl
        have xfz2 := xf.frozen 2
        have xf3 := xf.cell 3 rfl
        have xfz3 := xf.frozen 3
        have xf4 := xf.cell 4 rfl
        have xfz4 := xf.frozen 4
        go_wp2_with fail
        clear xf0 xfz0 xf1 xfz1 xf2 xfz2 xf3 xfz3 xf4 xfz4
        replace xf : Box 25 (V2.setCell ⟨V1.heap.size, 1, none⟩ (.string A)) (V1.heap.size) [.string Z, .string A, .int .i64 0, .int .i64 0, .int .i64 9] := (xf.set 1 (.string A))
        replace hB : Below W.heap.size W (V2.setCell ⟨V1.heap.size, 1, none⟩ (.string A)) := (hB.setCell le_xf _)
        generalize (V2.setCell ⟨V1.heap.size, 1, none⟩ (.string A)) = V3 at *
        have xf0 := xf.cell 0 rfl
        have xfz0 := xf.frozen 0
        have xf1 := xf.cell 1 rfl
        have xfz1 := xf.frozen 1
        have xf2 := xf.cell 2 rfl
        have xfz2 := xf.frozen 2
        have xf3 := xf.cell 3 rfl
        have xfz3 := xf.frozen 3
        have xf4 := xf.cell 4 rfl
        have xfz4 := xf.frozen 4
        refine (TR1.out _).mono ?_
        rintro e V4 ⟨rfl, hk⟩
        clear xf0 xfz0 xf1 xfz1 xf2 xfz2 xf3 xfz3 xf4 xfz4
        replace hB := below_seq hB hk
        replace xf := xf.seq hk
        clear hk
        have xa := Box.new 35 V4 [.int .i64 1, .int .u64 (g.toNat : Int), .int .u64 (q.toNat : Int), .int .u64 (d.toNat : Int)]
        have ne_xa_xf : V4.heap.size ≠ V1.heap.size := Nat.ne_of_gt xf.lt
        have le_xa : W.heap.size ≤ V4.heap.size := hB.size
        replace xf := xf.alloc (.cells #[.int .i64 1, .int .u64 (g.toNat : Int), .int .u64 (q.toNat : Int), .int .u64 (d.toNat : Int)] 35)
        replace hB := hB.alloc hB.size (.cells #[.int .i64 1, .int .u64 (g.toNat : Int), .int .u64 (q.toNat : Int), .int .u64 (d.toNat : Int)] 35)
        have xf0 := xf.cell 0 rfl
        have xfz0 := xf.frozen 0
        have xf1 := xf.cell 1 rfl
        have xfz1 := xf.frozen 1
        have xf2 := xf.cell 2 rfl
        have xfz2 := xf.frozen 2
        have xf3 := xf.cell 3 rfl
        have xfz3 := xf.frozen 3
        have xf4 := xf.cell 4 rfl
        have xfz4 := xf.frozen 4
        have xa0 := xa.cell 0 rfl
        have xaz0 := xa.frozen 0
        have xa1 := xa.cell 1 rfl
        have xaz1 := xa.frozen 1
        have xa2 := xa.cell 2 rfl
        have xaz2 := xa.frozen 2
        have xa3 := xa.cell 3 rfl
        have xaz3 := xa.frozen 3
        go_wp2_with fail
        refine (T2.out _).mono ?_
        rintro e V5 ⟨rfl, hk⟩
        clear xf0 xfz0 xf1 xfz1 xf2 xfz2 xf3 xfz3 xf4 xfz4 xa0 xaz0 xa1 xaz1 xa2 xaz2 xa3 xaz3
        replace hB := below_seq hB hk
        replace xf := xf.seq hk
        replace xa := xa.seq hk
        clear hk
        have xf0 := xf.cell 0 rfl
        have xfz0 := xf.frozen 0
        have xf1 := xf.cell 1 rfl
        have xfz1 := xf.frozen 1
        have xf2 := xf.cell 2 rfl
        have xfz2 := xf.frozen 2
        have xf3 := xf.cell 3 rfl
        have xfz3 := xf.frozen 3
        have xf4 := xf.cell 4 rfl
        have xfz4 := xf.frozen 4
        have xa0 := xa.cell 0 rfl
        have xaz0 := xa.frozen 0
        have xa1 := xa.cell 1 rfl
        have xaz1 := xa.frozen 1
        have xa2 := xa.cell 2 rfl
        have xaz2 := xa.frozen 2
        have xa3 := xa.cell 3 rfl
        have xaz3 := xa.frozen 3
        go_wp2_with fail
        clear xf0 xfz0 xf1 xfz1 xf2 xfz2 xf3 xfz3 xf4 xfz4 xa0 xaz0 xa1 xaz1 xa2 xaz2 xa3 xaz3
        replace xa : Box 35 (V5.setCell ⟨V1.heap.size, 0, none⟩ (.string B)) (V4.heap.size) [.int .i64 1, .int .u64 (g.toNat : Int), .int .u64 (q.toNat : Int), .int .u64 (d.toNat : Int)] := (xa.other (Ne.symm ne_xa_xf) 0 (.string B))
        replace xf : Box 25 (V5.setCell ⟨V1.heap.size, 0, none⟩ (.string B)) (V1.heap.size) [.string B, .string A, .int .i64 0, .int .i64 0, .int .i64 9] := (xf.set 0 (.string B))
        replace hB : Below W.heap.size W (V5.setCell ⟨V1.heap.size, 0, none⟩ (.string B)) := (hB.setCell le_xf _)
        generalize (V5.setCell ⟨V1.heap.size, 0, none⟩ (.string B)) = V6 at *
        have xf0 := xf.cell 0 rfl
        have xfz0 := xf.frozen 0
        have xf1 := xf.cell 1 rfl
        have xfz1 := xf.frozen 1
        have xf2 := xf.cell 2 rfl
        have xfz2 := xf.frozen 2
        have xf3 := xf.cell 3 rfl
        have xfz3 := xf.frozen 3
        have xf4 := xf.cell 4 rfl
        have xfz4 := xf.frozen 4
        have xa0 := xa.cell 0 rfl
        have xaz0 := xa.frozen 0
        have xa1 := xa.cell 1 rfl
        have xaz1 := xa.frozen 1
        have xa2 := xa.cell 2 rfl
        have xaz2 := xa.frozen 2
        have xa3 := xa.cell 3 rfl
        have xaz3 := xa.frozen 3
        refine (TR2.out _).mono ?_
        rintro e V7 ⟨rfl, hk⟩
        clear xf0 xfz0 xf1 xfz1 xf2 xfz2 xf3 xfz3 xf4 xfz4 xa0 xaz0 xa1 xaz1 xa2 xaz2 xa3 xaz3
        replace hB := below_seq hB hk
        replace xf := xf.seq hk
        replace xa := xa.seq hk
        clear hk
        have xb := Box.new 35 V7 [.int .i64 0, .int .u64 (h.toNat : Int), .int .u64 (q.toNat : Int), .int .u64 (d1 : Int)]
        have ne_xb_xf : V7.heap.size ≠ V1.heap.size := Nat.ne_of_gt xf.lt
        have ne_xb_xa : V7.heap.size ≠ V4.heap.size := Nat.ne_of_gt xa.lt
        have le_xb : W.heap.size ≤ V7.heap.size := hB.size
        replace xf := xf.alloc (.cells #[.int .i64 0, .int .u64 (h.toNat : Int), .int .u64 (q.toNat : Int), .int .u64 (d1 : Int)] 35)
        replace xa := xa.alloc (.cells #[.int .i64 0, .int .u64 (h.toNat : Int), .int .u64 (q.toNat : Int), .int .u64 (d1 : Int)] 35)
        replace hB := hB.alloc hB.size (.cells #[.int .i64 0, .int .u64 (h.toNat : Int), .int .u64 (q.toNat : Int), .int .u64 (d1 : Int)] 35)
        have xf0 := xf.cell 0 rfl
        have xfz0 := xf.frozen 0
        have xf1 := xf.cell 1 rfl
        have xfz1 := xf.frozen 1
        have xf2 := xf.cell 2 rfl
        have xfz2 := xf.frozen 2
        have xf3 := xf.cell 3 rfl
        have xfz3 := xf.frozen 3
        have xf4 := xf.cell 4 rfl
        have xfz4 := xf.frozen 4
        have xa0 := xa.cell 0 rfl
        have xaz0 := xa.frozen 0
        have xa1 := xa.cell 1 rfl
        have xaz1 := xa.frozen 1
        have xa2 := xa.cell 2 rfl
        have xaz2 := xa.frozen 2
        have xa3 := xa.cell 3 rfl
        have xaz3 := xa.frozen 3
        have xb0 := xb.cell 0 rfl
        have xbz0 := xb.frozen 0
        have xb1 := xb.cell 1 rfl
        have xbz1 := xb.frozen 1
        have xb2 := xb.cell 2 rfl
        have xbz2 := xb.frozen 2
        have xb3 := xb.cell 3 rfl
        have xbz3 := xb.frozen 3
        clear xf0 xfz0 xf1 xfz1 xf2 xfz2 xf3 xfz3 xf4 xfz4 xa0 xaz0 xa1 xaz1 xa2 xaz2 xa3 xaz3 xb0 xbz0 xb1 xbz1 xb2 xbz2 xb3 xbz3
        have xa0 := xa.cell 0 rfl
        have xaz0 := xa.frozen 0
        have xa1 := xa.cell 1 rfl
        have xaz1 := xa.frozen 1
        have xa2 := xa.cell 2 rfl
        have xaz2 := xa.frozen 2
        have xa3 := xa.cell 3 rfl
        have xaz3 := xa.frozen 3
        have xb0 := xb.cell 0 rfl
        have xbz0 := xb.frozen 0
        have xb1 := xb.cell 1 rfl
        have xbz1 := xb.frozen 1
        have xb2 := xb.cell 2 rfl
        have xbz2 := xb.frozen 2
        have xb3 := xb.cell 3 rfl
        have xbz3 := xb.frozen 3
        go_wp2_with fail
        refine (shown10 _).mono ?_
        rintro e V8 ⟨rfl, hk⟩
        clear xa0 xaz0 xa1 xaz1 xa2 xaz2 xa3 xaz3 xb0 xbz0 xb1 xbz1 xb2 xbz2 xb3 xbz3
        replace hB := below_seq hB hk
        replace xf := xf.seq hk
        replace xa := xa.seq hk
        replace xb := xb.seq hk
        clear hk
        have xa0 := xa.cell 0 rfl
        have xaz0 := xa.frozen 0
        have xa1 := xa.cell 1 rfl
        have xaz1 := xa.frozen 1
        have xa2 := xa.cell 2 rfl
        have xaz2 := xa.frozen 2
        have xa3 := xa.cell 3 rfl
        have xaz3 := xa.frozen 3
        have xb0 := xb.cell 0 rfl
        have xbz0 := xb.frozen 0
        have xb1 := xb.cell 1 rfl
        have xbz1 := xb.frozen 1
        have xb2 := xb.cell 2 rfl
        have xbz2 := xb.frozen 2
        have xb3 := xb.cell 3 rfl
        have xbz3 := xb.frozen 3
        go_wp2
        go_ret
        exact ⟨rfl, hB⟩
      · have TR1 := Lib.hid (fun (V : World) => (show Calls Try.prog 12 #[.agg #[.string Z, .string A, .int .i64 0, .int .i64 0, .int .i64 9]] V fun e W' => e = .returned (.tuple #[.agg #[.int .i64 1, .int .u64 (g.toNat : Int), .int .u64 (q.toNat : Int), .int .u64 (d.toNat : Int)], .int .i64 0]) ∧ Below V.heap.size V W' from by have h1 := reads Z A 1 (by decide) (bankG_is1 sg (fun x => by rw [sz] at x; cases x)) z48 zg V; rw [if_neg (by decide), gg, lg] at h1; exact h1))
        have TR2 := Lib.hid (fun (V : World) => (show Calls Try.prog 12 #[.agg #[.string B, .string A, .int .i64 0, .int .i64 0, .int .i64 9]] V fun e W' => e = .returned (.tuple #[.agg #[.int .i64 0, .int .u64 (h.toNat : Int), .int .u64 (q.toNat : Int), .int .u64 (d1 : Int)], .int .i64 0]) ∧ Below V.heap.size V W' from by have h1 := reads B A 0 (by decide) (bankG_is0 sh (fun _ => by rw [gg, gh]; clear w2; omega)) zh zg V; rw [if_pos rfl, gh, lh] at h1; exact h1))
        clear reads sg sh lg lh gg gh zg zh sz z48
        have m1 : ¬ (h.toNat : Int) < (g.toNat : Int) := by clear w2; omega
        have m2 : ((h.toNat : Int) == (g.toNat : Int)) = false := beq_eq_false_iff_ne.2 (by clear w2; omega)
        clear hlt heq
        have hB : Below W.heap.size W W := Below.refl _ _
        go_enter Try.func5, Try.ntmps5
        go_wp2_with fail
        refine (TN.out _).mono ?_
        rintro e V1 ⟨rfl, hk⟩
        replace hB := below_seq hB hk
        clear hk
        have xf := Box.new 25 V1 [.string Z, .string Z, .int .i64 0, .int .i64 0, .int .i64 9]
        have le_xf : W.heap.size ≤ V1.heap.size := hB.size
        replace hB := hB.alloc hB.size (.cells #[.string Z, .string Z, .int .i64 0, .int .i64 0, .int .i64 9] 25)
        have xf0 := xf.cell 0 rfl
        have xfz0 := xf.frozen 0
        have xf1 := xf.cell 1 rfl
        have xfz1 := xf.frozen 1
        have xf2 := xf.cell 2 rfl
        have xfz2 := xf.frozen 2
        have xf3 := xf.cell 3 rfl
        have xfz3 := xf.frozen 3
        have xf4 := xf.cell 4 rfl
        have xfz4 := xf.frozen 4
        go_wp2_with fail
        refine (T1.out _).mono ?_
        rintro e V2 ⟨rfl, hk⟩
        clear xf0 xfz0 xf1 xfz1 xf2 xfz2 xf3 xfz3 xf4 xfz4
        replace hB := below_seq hB hk
        replace xf := xf.seq hk
        clear hk
        have xf0 := xf.cell 0 rfl
        have xfz0 := xf.frozen 0
        have xf1 := xf.cell 1 rfl
        have xfz1 := xf.frozen 1
        have xf2 := xf.cell 2 rfl
        have xfz2 := xf.frozen 2
        have xf3 := xf.cell 3 rfl
        have xfz3 := xf.frozen 3
        have xf4 := xf.cell 4 rfl
        have xfz4 := xf.frozen 4
        go_wp2_with fail
        clear xf0 xfz0 xf1 xfz1 xf2 xfz2 xf3 xfz3 xf4 xfz4
        replace xf : Box 25 (V2.setCell ⟨V1.heap.size, 1, none⟩ (.string A)) (V1.heap.size) [.string Z, .string A, .int .i64 0, .int .i64 0, .int .i64 9] := (xf.set 1 (.string A))
        replace hB : Below W.heap.size W (V2.setCell ⟨V1.heap.size, 1, none⟩ (.string A)) := (hB.setCell le_xf _)
        generalize (V2.setCell ⟨V1.heap.size, 1, none⟩ (.string A)) = V3 at *
        have xf0 := xf.cell 0 rfl
        have xfz0 := xf.frozen 0
        have xf1 := xf.cell 1 rfl
        have xfz1 := xf.frozen 1
        have xf2 := xf.cell 2 rfl
        have xfz2 := xf.frozen 2
        have xf3 := xf.cell 3 rfl
        have xfz3 := xf.frozen 3
        have xf4 := xf.cell 4 rfl
        have xfz4 := xf.frozen 4
        refine (TR1.out _).mono ?_
        rintro e V4 ⟨rfl, hk⟩
        clear xf0 xfz0 xf1 xfz1 xf2 xfz2 xf3 xfz3 xf4 xfz4
        replace hB := below_seq hB hk
        replace xf := xf.seq hk
        clear hk
        have xa := Box.new 35 V4 [.int .i64 1, .int .u64 (g.toNat : Int), .int .u64 (q.toNat : Int), .int .u64 (d.toNat : Int)]
        have ne_xa_xf : V4.heap.size ≠ V1.heap.size := Nat.ne_of_gt xf.lt
        have le_xa : W.heap.size ≤ V4.heap.size := hB.size
        replace xf := xf.alloc (.cells #[.int .i64 1, .int .u64 (g.toNat : Int), .int .u64 (q.toNat : Int), .int .u64 (d.toNat : Int)] 35)
        replace hB := hB.alloc hB.size (.cells #[.int .i64 1, .int .u64 (g.toNat : Int), .int .u64 (q.toNat : Int), .int .u64 (d.toNat : Int)] 35)
        have xf0 := xf.cell 0 rfl
        have xfz0 := xf.frozen 0
        have xf1 := xf.cell 1 rfl
        have xfz1 := xf.frozen 1
        have xf2 := xf.cell 2 rfl
        have xfz2 := xf.frozen 2
        have xf3 := xf.cell 3 rfl
        have xfz3 := xf.frozen 3
        have xf4 := xf.cell 4 rfl
        have xfz4 := xf.frozen 4
        have xa0 := xa.cell 0 rfl
        have xaz0 := xa.frozen 0
        have xa1 := xa.cell 1 rfl
        have xaz1 := xa.frozen 1
        have xa2 := xa.cell 2 rfl
        have xaz2 := xa.frozen 2
        have xa3 := xa.cell 3 rfl
        have xaz3 := xa.frozen 3
        go_wp2_with fail
        refine (T2.out _).mono ?_
        rintro e V5 ⟨rfl, hk⟩
        clear xf0 xfz0 xf1 xfz1 xf2 xfz2 xf3 xfz3 xf4 xfz4 xa0 xaz0 xa1 xaz1 xa2 xaz2 xa3 xaz3
        replace hB := below_seq hB hk
        replace xf := xf.seq hk
        replace xa := xa.seq hk
        clear hk
        have xf0 := xf.cell 0 rfl
        have xfz0 := xf.frozen 0
        have xf1 := xf.cell 1 rfl
        have xfz1 := xf.frozen 1
        have xf2 := xf.cell 2 rfl
        have xfz2 := xf.frozen 2
        have xf3 := xf.cell 3 rfl
        have xfz3 := xf.frozen 3
        have xf4 := xf.cell 4 rfl
        have xfz4 := xf.frozen 4
        have xa0 := xa.cell 0 rfl
        have xaz0 := xa.frozen 0
        have xa1 := xa.cell 1 rfl
        have xaz1 := xa.frozen 1
        have xa2 := xa.cell 2 rfl
        have xaz2 := xa.frozen 2
        have xa3 := xa.cell 3 rfl
        have xaz3 := xa.frozen 3
        go_wp2_with fail
        clear xf0 xfz0 xf1 xfz1 xf2 xfz2 xf3 xfz3 xf4 xfz4 xa0 xaz0 xa1 xaz1 xa2 xaz2 xa3 xaz3
        replace xa : Box 35 (V5.setCell ⟨V1.heap.size, 0, none⟩ (.string B)) (V4.heap.size) [.int .i64 1, .int .u64 (g.toNat : Int), .int .u64 (q.toNat : Int), .int .u64 (d.toNat : Int)] := (xa.other (Ne.symm ne_xa_xf) 0 (.string B))
        replace xf : Box 25 (V5.setCell ⟨V1.heap.size, 0, none⟩ (.string B)) (V1.heap.size) [.string B, .string A, .int .i64 0, .int .i64 0, .int .i64 9] := (xf.set 0 (.string B))
        replace hB : Below W.heap.size W (V5.setCell ⟨V1.heap.size, 0, none⟩ (.string B)) := (hB.setCell le_xf _)
        generalize (V5.setCell ⟨V1.heap.size, 0, none⟩ (.string B)) = V6 at *
        have xf0 := xf.cell 0 rfl
        have xfz0 := xf.frozen 0
        have xf1 := xf.cell 1 rfl
        have xfz1 := xf.frozen 1
        have xf2 := xf.cell 2 rfl
        have xfz2 := xf.frozen 2
        have xf3 := xf.cell 3 rfl
        have xfz3 := xf.frozen 3
        have xf4 := xf.cell 4 rfl
        have xfz4 := xf.frozen 4
        have xa0 := xa.cell 0 rfl
        have xaz0 := xa.frozen 0
        have xa1 := xa.cell 1 rfl
        have xaz1 := xa.frozen 1
        have xa2 := xa.cell 2 rfl
        have xaz2 := xa.frozen 2
        have xa3 := xa.cell 3 rfl
        have xaz3 := xa.frozen 3
        refine (TR2.out _).mono ?_
        rintro e V7 ⟨rfl, hk⟩
        clear xf0 xfz0 xf1 xfz1 xf2 xfz2 xf3 xfz3 xf4 xfz4 xa0 xaz0 xa1 xaz1 xa2 xaz2 xa3 xaz3
        replace hB := below_seq hB hk
        replace xf := xf.seq hk
        replace xa := xa.seq hk
        clear hk
        have xb := Box.new 35 V7 [.int .i64 0, .int .u64 (h.toNat : Int), .int .u64 (q.toNat : Int), .int .u64 (d1 : Int)]
        have ne_xb_xf : V7.heap.size ≠ V1.heap.size := Nat.ne_of_gt xf.lt
        have ne_xb_xa : V7.heap.size ≠ V4.heap.size := Nat.ne_of_gt xa.lt
        have le_xb : W.heap.size ≤ V7.heap.size := hB.size
        replace xf := xf.alloc (.cells #[.int .i64 0, .int .u64 (h.toNat : Int), .int .u64 (q.toNat : Int), .int .u64 (d1 : Int)] 35)
        replace xa := xa.alloc (.cells #[.int .i64 0, .int .u64 (h.toNat : Int), .int .u64 (q.toNat : Int), .int .u64 (d1 : Int)] 35)
        replace hB := hB.alloc hB.size (.cells #[.int .i64 0, .int .u64 (h.toNat : Int), .int .u64 (q.toNat : Int), .int .u64 (d1 : Int)] 35)
        have xf0 := xf.cell 0 rfl
        have xfz0 := xf.frozen 0
        have xf1 := xf.cell 1 rfl
        have xfz1 := xf.frozen 1
        have xf2 := xf.cell 2 rfl
        have xfz2 := xf.frozen 2
        have xf3 := xf.cell 3 rfl
        have xfz3 := xf.frozen 3
        have xf4 := xf.cell 4 rfl
        have xfz4 := xf.frozen 4
        have xa0 := xa.cell 0 rfl
        have xaz0 := xa.frozen 0
        have xa1 := xa.cell 1 rfl
        have xaz1 := xa.frozen 1
        have xa2 := xa.cell 2 rfl
        have xaz2 := xa.frozen 2
        have xa3 := xa.cell 3 rfl
        have xaz3 := xa.frozen 3
        have xb0 := xb.cell 0 rfl
        have xbz0 := xb.frozen 0
        have xb1 := xb.cell 1 rfl
        have xbz1 := xb.frozen 1
        have xb2 := xb.cell 2 rfl
        have xbz2 := xb.frozen 2
        have xb3 := xb.cell 3 rfl
        have xbz3 := xb.frozen 3
        clear xf0 xfz0 xf1 xfz1 xf2 xfz2 xf3 xfz3 xf4 xfz4 xa0 xaz0 xa1 xaz1 xa2 xaz2 xa3 xaz3 xb0 xbz0 xb1 xbz1 xb2 xbz2 xb3 xbz3
        have xa0 := xa.cell 0 rfl
        have xaz0 := xa.frozen 0
        have xa1 := xa.cell 1 rfl
        have xaz1 := xa.frozen 1
        have xa2 := xa.cell 2 rfl
        have xaz2 := xa.frozen 2
        have xa3 := xa.cell 3 rfl
        have xaz3 := xa.frozen 3
        have xb0 := xb.cell 0 rfl
        have xbz0 := xb.frozen 0
        have xb1 := xb.cell 1 rfl
        have xbz1 := xb.frozen 1
        have xb2 := xb.cell 2 rfl
        have xbz2 := xb.frozen 2
        have xb3 := xb.cell 3 rfl
        have xbz3 := xb.frozen 3
        go_wp2_with fail
        refine (shown10 _).mono ?_
        rintro e V8 ⟨rfl, hk⟩
        clear xa0 xaz0 xa1 xaz1 xa2 xaz2 xa3 xaz3 xb0 xbz0 xb1 xbz1 xb2 xbz2 xb3 xbz3
        replace hB := below_seq hB hk
        replace xf := xf.seq hk
        replace xa := xa.seq hk
        replace xb := xb.seq hk
        clear hk
        have xa0 := xa.cell 0 rfl
        have xaz0 := xa.frozen 0
        have xa1 := xa.cell 1 rfl
        have xaz1 := xa.frozen 1
        have xa2 := xa.cell 2 rfl
        have xaz2 := xa.frozen 2
        have xa3 := xa.cell 3 rfl
        have xaz3 := xa.frozen 3
        have xb0 := xb.cell 0 rfl
        have xbz0 := xb.frozen 0
        have xb1 := xb.cell 1 rfl
        have xbz1 := xb.frozen 1
        have xb2 := xb.cell 2 rfl
        have xbz2 := xb.frozen 2
        have xb3 := xb.cell 3 rfl
        have xbz3 := xb.frozen 3
        go_wp2
        go_ret
        exact ⟨rfl, hB⟩

theorem own : ownKnob Try.prog.godebug = none := by kernel_rfl

set_option maxRecDepth 100000 in
theorem lifted (os : Os) (started : os.Started) (H : Type) (enc : TypeId × Value → H) :
    ReturnsInHanded {} Try.checked os 5 .any (Rows.pickOneSpec.pre6 enc Try.prog Try.f5 Rows.pickOneRow.domain false) (Rows.pickOneSpec.post enc Try.prog Try.f5 false true false false) := by
  refine returnsInHanded_of_change (C := Try.checked) own started (by kernel_rfl) Try.func5
    (ChangeSpec.witness6 (enc := enc) (C := Try.checked) false ⟨#[], #[.int .u64 0, .int .u64 0, .int .u64 0, .int .u64 0, .bool false], []⟩ 8 (by kernel_rfl) (by kernel_rfl) (by kernel_rfl) (by kernel_rfl)) ?_
  intro W base args ds gs before hval hW _ _
  have hW' := hW
  obtain ⟨p, q, hA0, hV, rfl, hfz, hnd⟩ := hW
  have hA : DataW.TrodAll enc Try.prog W 0 (fun _ => true) true Try.f5.params.toList args.toList ds p := hA0
  rw [Try.params5] at hA hval
  obtain ⟨v0, vs0, d0, ds0, p0, q0, hargs, rfl, rfl, h0, r0⟩ := trodAll_cons hA
  obtain ⟨v1, vs1, d1, ds1, p1, q1, rfl, rfl, rfl, h1, r1⟩ := trodAll_cons r0
  obtain ⟨v2, vs2, d2, ds2, p2, q2, rfl, rfl, rfl, h2, r2⟩ := trodAll_cons r1
  obtain ⟨v3, vs3, d3, ds3, p3, q3, rfl, rfl, rfl, h3, r3⟩ := trodAll_cons r2
  obtain ⟨v4, vs4, d4, ds4, p4, q4, rfl, rfl, rfl, h4, r4⟩ := trodAll_cons r3
  obtain ⟨rfl, rfl, rfl⟩ := trodAll_nil r4
  obtain rfl : args = #[v0, v1, v2, v3, v4] := by cases args; simp_all
  obtain ⟨rfl, rfl⟩ := trodVars_none hV
  obtain ⟨a0, rfl, rfl, rfl, w0⟩ := open_int Try.underlying30 (hval 0 30 v0 rfl rfl) h0
  obtain ⟨c0, rfl⟩ := int_u64 w0
  obtain ⟨a1, rfl, rfl, rfl, w1⟩ := open_int Try.underlying30 (hval 1 30 v1 rfl rfl) h1
  obtain ⟨c1, rfl⟩ := int_u64 w1
  obtain ⟨a2, rfl, rfl, rfl, w2⟩ := open_int Try.underlying30 (hval 2 30 v2 rfl rfl) h2
  obtain ⟨c2, rfl⟩ := int_u64 w2
  obtain ⟨a3, rfl, rfl, rfl, w3⟩ := open_int Try.underlying30 (hval 3 30 v3 rfl rfl) h3
  obtain ⟨c3, rfl⟩ := int_u64 w3
  obtain ⟨s4, rfl, rfl, rfl⟩ := open_bool Try.underlying4 (hval 4 4 v4 rfl rfl) h4
  clear hA0
  simp only [List.append_nil] at hW'
  refine (walk c0 c1 c2 c3 s4 W ).mono fun e W' ⟨he, hB⟩ => ?_
  subst he
  exact ⟨_, rfl, ⟨_, _, _, [], _, [], hW', trodAll_cons_mk (shut_bool Try.underlying4 _) trodAll_mk0, (trodAll_cons_mk (shut_int Try.underlying30 w0) (trodAll_cons_mk (shut_int Try.underlying30 w1) (trodAll_cons_mk (shut_int Try.underlying30 w2) (trodAll_cons_mk (shut_int Try.underlying30 w3) (trodAll_cons_mk (shut_bool Try.underlying4 _) trodAll_mk0))))), rfl, hB.frame _, fun h => by cases h⟩⟩

theorem holds : Rows.PickOneSaid :=
  OpenClaim.holds_of_wide 5 Try.f5 rfl rfl rfl rfl rfl rfl rfl ⟨rfl, rfl, rfl, rfl, rfl⟩ rfl rfl rfl rfl rfl (by kernel_rfl) Try.func5 (by kernel_rfl)
    (of_decide_eq_true (by kernel_rfl)) (by unfold Func.isWrapper; first | (rw [if_pos (by decide +kernel)]; kernel_rfl) | (rw [if_neg (by decide +kernel)]; exact ⟨rfl, rfl⟩))
    (fun os started H enc _ => lifted os started H enc)
end Go.Proofs.Ytejhbamlnkhfcaa.PickOne

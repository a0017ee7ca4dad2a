/- The laws' own helpers of layer 12: contracts only. -/
import Derived.Test.YthmpjoiifglbjaaGreatRows
import Derived.Test.YthmpjoiifglbjaaGreatJourFit
import Derived.Test.YthmpjoiifglbjaaGreatJourOpen
import Derived.Test.YthmpjoiifglbjaaGreatBox
import Derived.Test.YthmpjoiifglbjaaGreatInts
import Derived.WalkKit
import Derived.ProofKit
import Derived.Lib.Hide
import Derived.Test.YthmpjoiifglbjaaGreatPowerDo
import Derived.Test.YthmpjoiifglbjaaGreatJourOwn
import Derived.Test.YthmpjoiifglbjaaGreatLayoutOwn
import Derived.Test.YthmpjoiifglbjaaGreatPickRef
import Derived.Test.YthmpjoiifglbjaaGreatFlashOwn
import Derived.Deep.RegionHeld3
import Derived.WalkLawsBesides
import Derived.WalkSpells
import Derived.IntWalk
namespace Go.Proofs.YthmpjoiifglbjaaGreat
open Go.RowKit
set_option linter.unusedVariables false
set_option linter.unusedSimpArgs false


set_option maxRecDepth 100000 in
set_option maxHeartbeats 4000000 in
theorem shown12 (W : World) : Calls Tryz.prog 7 #[] W fun e W' => e = .returned (.bool true) ∧ Below W.heap.size W W' := by
  have r0 : runJ (startJ pn0) jn0 = jl0 := rfl
  have r1 : runJ (startJ pn0) jn1 = jl1 := rfl
  have n0 : jn0.length = 2 := rfl
  have n1 : jn1.length = 3 := rfl
  obtain ⟨o0, o1⟩ := jn_ok
  obtain ⟨i0, i1, i2, i3, i4, i5⟩ := jl0_is
  have i6 := jl1_is
  obtain ⟨d0, d1, d2, d3, d4⟩ := jl_read
  obtain ⟨f0, f1⟩ := jl_fit
  have ff := pn_ok0
  obtain ⟨s0, hs0⟩ : ∃ l, jn0 = l := ⟨_, rfl⟩
  obtain ⟨s1, hs1⟩ : ∃ l, jn1 = l := ⟨_, rfl⟩
  obtain ⟨y0, hy0⟩ : ∃ l, jl0 = l := ⟨_, rfl⟩
  obtain ⟨y1, hy1⟩ : ∃ l, jl1 = l := ⟨_, rfl⟩
  obtain ⟨F0, hF0⟩ : ∃ F, pn0 = F := ⟨_, rfl⟩
  have hnew : newF 72 5 = F0 := hF0
  rw [hs0] at r0 n0 o0
  rw [hs1] at r1 n1 o1
  rw [hF0] at r0 r1 d4 ff
  rw [hy0] at r0 i0 i1 i2 i3 i4 i5 d0 d1 f0
  rw [hy1] at r1 i6 d2 d3 f1
  clear hy0 hy1 hF0
  have TN := Lib.hid (fun (V : World) => (show Calls Tryz.prog 18 #[.int .i64 72, .int .i64 5] V fun e W' => e = .returned (.agg #[.string F0.b0, .string F0.b1, .int .i64 F0.e0, .int .i64 F0.e1, .int .i64 F0.lim]) ∧ Below V.heap.size V W' from by
    have h := flNew 72 5 V
    rw [hnew] at h; exact h))
  have TR0 := Lib.hid (fun (A : Option Addr) (V : World) (h0 : RowsAt 3 stpV V A s0) => (show Calls Tryz.prog 12 #[.agg #[.string F0.b0, .string F0.b1, .int .i64 F0.e0, .int .i64 F0.e1, .int .i64 F0.lim], .slice A 2 2] V fun e W' => e = .returned (.agg #[.string y0.f.b0, .string y0.f.b1, .int .i64 y0.f.e0, .int .i64 y0.f.e1, .int .i64 y0.f.lim, .int .i64 1, .int .u64 7, .bool true, .int .u64 8]) ∧ Below V.heap.size V W' from by
    have h := own12Run F0 s0 A 2 V ff h0 o0 ⟨by omega, by decide⟩
    rw [r0, i0, i1, i2, i3, n0] at h; exact h))
  have TR1 := Lib.hid (fun (A : Option Addr) (V : World) (h0 : RowsAt 3 stpV V A s1) => (show Calls Tryz.prog 12 #[.agg #[.string F0.b0, .string F0.b1, .int .i64 F0.e0, .int .i64 F0.e1, .int .i64 F0.lim], .slice A 3 3] V fun e W' => e = .returned (.agg #[.string y1.f.b0, .string y1.f.b1, .int .i64 y1.f.e0, .int .i64 y1.f.e1, .int .i64 y1.f.lim, .int .i64 y1.acked, .int .u64 (y1.last : Int), .bool false, .int .u64 (y1.flight : Int)]) ∧ Below V.heap.size V W' from by
    have h := own12Run F0 s1 A 3 V ff h0 o1 ⟨by omega, by decide⟩
    rw [r1, i6, n1] at h; exact h))
  have TS0 := Lib.hid (fun (V : World) => (show Calls Tryz.prog 15 #[.agg #[.string y0.f.b0, .string y0.f.b1, .int .i64 y0.f.e0, .int .i64 y0.f.e1, .int .i64 y0.f.lim, .int .i64 1, .int .u64 7, .bool true, .int .u64 8]] V fun e W' => e = .returned (.tuple #[.int .u64 8, .bool true]) ∧ Below V.heap.size V W' from by
    have h := own12State y0 V f0.ok
    rw [i0, i1, i2, i3, d0, d1] at h; exact h))
  have TS1 := Lib.hid (fun (V : World) => (show Calls Tryz.prog 15 #[.agg #[.string y1.f.b0, .string y1.f.b1, .int .i64 y1.f.e0, .int .i64 y1.f.e1, .int .i64 y1.f.lim, .int .i64 y1.acked, .int .u64 (y1.last : Int), .bool false, .int .u64 (y1.flight : Int)]] V fun e W' => e = .returned (.tuple #[.int .u64 7, .bool true]) ∧ Below V.heap.size V W' from by
    have h := own12State y1 V f1.ok
    rw [i6, d2, d3] at h; exact h))
  have TS2 := Lib.hid (fun (V : World) => (show Calls Tryz.prog 15 #[.agg #[.string F0.b0, .string F0.b1, .int .i64 F0.e0, .int .i64 F0.e1, .int .i64 F0.lim, .int .i64 0, .int .u64 0, .bool false, .int .u64 0]] V fun e W' => e = .returned (.tuple #[.int .u64 ((pickS F0).data : Int), .bool false]) ∧ Below V.heap.size V W' from by
    have h := own12State (startJ F0) V ff.ok
    rw [show pickE (startJ F0).f = 10 from d4] at h; exact h))
  have TW := Lib.hid (fun (V : World) => (show Calls Tryz.prog 10 #[.agg #[.string y0.f.b0, .string y0.f.b1, .int .i64 y0.f.e0, .int .i64 y0.f.e1, .int .i64 y0.f.lim]] V fun e W' => e = .returned (.int .i64 1) ∧ Below V.heap.size V W' from by
    have h := own12Wear y0.f V f0.ok
    rw [show wearF y0.f = 1 from by unfold wearF; rw [i4, i5]; exact IntWalk.wrap64_in _ (by omega)] at h; exact h))
  clear r0 r1 n0 n1 o0 o1 i0 i1 i2 i3 i4 i5 i6 d0 d1 d2 d3 d4 f0 f1 ff hnew
  generalize (pickS F0).data = pd at *
  obtain ⟨F1, hF1⟩ : ∃ F1, y0.f = F1 := ⟨_, rfl⟩
  obtain ⟨F2, hF2⟩ : ∃ F2, y1.f = F2 := ⟨_, rfl⟩
  rw [hF1] at TR0 TS0 TW
  rw [hF2] at TR1 TS1
  clear hF1 hF2
  generalize y1.acked = ja at *
  generalize y1.last = jb at *
  generalize y1.flight = jc at *
  have hB : Below W.heap.size W W := Below.refl _ _
  go_enter Tryz.func7, Tryz.ntmps7
  go_wp2_with fail
  refine (TN.out _).mono ?_
  rintro e V1 ⟨rfl, hk⟩
  replace hB := below_seq hB hk
  clear hk
  have xf := Box.new 25 V1 [.string F0.b0, .string F0.b1, .int .i64 F0.e0, .int .i64 F0.e1, .int .i64 F0.lim]
  have le_xf : W.heap.size ≤ V1.heap.size := hB.size
  replace hB := hB.alloc hB.size (.cells #[.string F0.b0, .string F0.b1, .int .i64 F0.e0, .int .i64 F0.e1, .int .i64 F0.lim] 25)
  obtain ⟨xf0, xfz0, xf1, xfz1, xf2, xfz2, xf3, xfz3, xf4, xfz4⟩ := xf.f5
  go_wp2_with fail
  clear xf0 xfz0 xf1 xfz1 xf2 xfz2 xf3 xfz3 xf4 xfz4
  have xa : Box 28 ((V1.alloc (.cells #[.string F0.b0, .string F0.b1, .int .i64 F0.e0, .int .i64 F0.e1, .int .i64 F0.lim] 25)).alloc (.cells #[.int .u64 7, .int .i64 (-1), .string ⟨#[]⟩, .int .u64 8, .int .i64 1, .string ⟨#[255, 255]⟩] 28)) (V1.heap.size + 1) [.int .u64 7, .int .i64 (-1), .string ⟨#[]⟩, .int .u64 8, .int .i64 1, .string ⟨#[255, 255]⟩] := by have h := Box.new 28 (V1.alloc (.cells #[.string F0.b0, .string F0.b1, .int .i64 F0.e0, .int .i64 F0.e1, .int .i64 F0.lim] 25)) [.int .u64 7, .int .i64 (-1), .string ⟨#[]⟩, .int .u64 8, .int .i64 1, .string ⟨#[255, 255]⟩]; rwa [World.size_alloc] at h
  have ne_xa_xf : V1.heap.size + 1 ≠ V1.heap.size := by have h := xf.lt; rw [World.size_alloc] at h; omega
  have le_xa : W.heap.size ≤ V1.heap.size + 1 := by have h := hB.size; rw [World.size_alloc] at h; exact h
  replace xf := xf.alloc (.cells #[.int .u64 7, .int .i64 (-1), .string ⟨#[]⟩, .int .u64 8, .int .i64 1, .string ⟨#[255, 255]⟩] 28)
  replace hB := hB.alloc hB.size (.cells #[.int .u64 7, .int .i64 (-1), .string ⟨#[]⟩, .int .u64 8, .int .i64 1, .string ⟨#[255, 255]⟩] 28)
  obtain ⟨xf0, xfz0, xf1, xfz1, xf2, xfz2, xf3, xfz3, xf4, xfz4⟩ := xf.f5
  obtain ⟨xa0, xaz0, xa1, xaz1, xa2, xaz2, xa3, xaz3, xa4, xaz4, xa5, xaz5⟩ := xa.f6
  have ha : RowsAt 3 stpV ((V1.alloc (.cells #[.string F0.b0, .string F0.b1, .int .i64 F0.e0, .int .i64 F0.e1, .int .i64 F0.lim] 25)).alloc (.cells #[.int .u64 7, .int .i64 (-1), .string ⟨#[]⟩, .int .u64 8, .int .i64 1, .string ⟨#[255, 255]⟩] 28)) (some ⟨V1.heap.size + 1, 0, none⟩) jn0 := by have h := RowsAt.lit (cv := stpV) (n := 3) (by decide) (fun _ => rfl) (V1.alloc (.cells #[.string F0.b0, .string F0.b1, .int .i64 F0.e0, .int .i64 F0.e1, .int .i64 F0.lim] 25)) 28 jn0; rw [World.size_alloc] at h; exact h
  rw [hs0] at ha
  refine (TR0.out _ _ ha).mono ?_
  rintro e V2 ⟨rfl, hk⟩
  clear xf0 xfz0 xf1 xfz1 xf2 xfz2 xf3 xfz3 xf4 xfz4 xa0 xaz0 xa1 xaz1 xa2 xaz2 xa3 xaz3 xa4 xaz4 xa5 xaz5
  replace hB := below_seq hB hk
  replace xf := xf.seq hk
  replace xa := xa.seq hk
  clear hk
  have xl := Box.new 43 V2 [.string F1.b0, .string F1.b1, .int .i64 F1.e0, .int .i64 F1.e1, .int .i64 F1.lim, .int .i64 1, .int .u64 7, .bool true, .int .u64 8]
  have ne_xl_xf : V2.heap.size ≠ V1.heap.size := Nat.ne_of_gt xf.lt
  have ne_xl_xa : V2.heap.size ≠ V1.heap.size + 1 := Nat.ne_of_gt xa.lt
  have le_xl : W.heap.size ≤ V2.heap.size := hB.size
  replace xf := xf.alloc (.cells #[.string F1.b0, .string F1.b1, .int .i64 F1.e0, .int .i64 F1.e1, .int .i64 F1.lim, .int .i64 1, .int .u64 7, .bool true, .int .u64 8] 43)
  replace xa := xa.alloc (.cells #[.string F1.b0, .string F1.b1, .int .i64 F1.e0, .int .i64 F1.e1, .int .i64 F1.lim, .int .i64 1, .int .u64 7, .bool true, .int .u64 8] 43)
  replace hB := hB.alloc hB.size (.cells #[.string F1.b0, .string F1.b1, .int .i64 F1.e0, .int .i64 F1.e1, .int .i64 F1.lim, .int .i64 1, .int .u64 7, .bool true, .int .u64 8] 43)
  obtain ⟨xf0, xfz0, xf1, xfz1, xf2, xfz2, xf3, xfz3, xf4, xfz4⟩ := xf.f5
  obtain ⟨xa0, xaz0, xa1, xaz1, xa2, xaz2, xa3, xaz3, xa4, xaz4, xa5, xaz5⟩ := xa.f6
  obtain ⟨xl0, xlz0, xl1, xlz1, xl2, xlz2, xl3, xlz3, xl4, xlz4, xl5, xlz5, xl6, xlz6, xl7, xlz7, xl8, xlz8⟩ := xl.f9
  clear ha
  go_wp2_with fail
  clear xf0 xfz0 xf1 xfz1 xf2 xfz2 xf3 xfz3 xf4 xfz4 xa0 xaz0 xa1 xaz1 xa2 xaz2 xa3 xaz3 xa4 xaz4 xa5 xaz5 xl0 xlz0 xl1 xlz1 xl2 xlz2 xl3 xlz3 xl4 xlz4 xl5 xlz5 xl6 xlz6 xl7 xlz7 xl8 xlz8
  have xb : Box 28 ((V2.alloc (.cells #[.string F1.b0, .string F1.b1, .int .i64 F1.e0, .int .i64 F1.e1, .int .i64 F1.lim, .int .i64 1, .int .u64 7, .bool true, .int .u64 8] 43)).alloc (.cells #[.int .u64 7, .int .i64 (-1), .string ⟨#[]⟩, .int .u64 8, .int .i64 1, .string ⟨#[]⟩, .int .u64 9, .int .i64 0, .string ⟨#[64]⟩] 28)) (V2.heap.size + 1) [.int .u64 7, .int .i64 (-1), .string ⟨#[]⟩, .int .u64 8, .int .i64 1, .string ⟨#[]⟩, .int .u64 9, .int .i64 0, .string ⟨#[64]⟩] := by have h := Box.new 28 (V2.alloc (.cells #[.string F1.b0, .string F1.b1, .int .i64 F1.e0, .int .i64 F1.e1, .int .i64 F1.lim, .int .i64 1, .int .u64 7, .bool true, .int .u64 8] 43)) [.int .u64 7, .int .i64 (-1), .string ⟨#[]⟩, .int .u64 8, .int .i64 1, .string ⟨#[]⟩, .int .u64 9, .int .i64 0, .string ⟨#[64]⟩]; rwa [World.size_alloc] at h
  have ne_xb_xf : V2.heap.size + 1 ≠ V1.heap.size := by have h := xf.lt; rw [World.size_alloc] at h; omega
  have ne_xb_xa : V2.heap.size + 1 ≠ V1.heap.size + 1 := by have h := xa.lt; rw [World.size_alloc] at h; omega
  have ne_xb_xl : V2.heap.size + 1 ≠ V2.heap.size := by have h := xl.lt; rw [World.size_alloc] at h; omega
  have le_xb : W.heap.size ≤ V2.heap.size + 1 := by have h := hB.size; rw [World.size_alloc] at h; exact h
  replace xf := xf.alloc (.cells #[.int .u64 7, .int .i64 (-1), .string ⟨#[]⟩, .int .u64 8, .int .i64 1, .string ⟨#[]⟩, .int .u64 9, .int .i64 0, .string ⟨#[64]⟩] 28)
  replace xa := xa.alloc (.cells #[.int .u64 7, .int .i64 (-1), .string ⟨#[]⟩, .int .u64 8, .int .i64 1, .string ⟨#[]⟩, .int .u64 9, .int .i64 0, .string ⟨#[64]⟩] 28)
  replace xl := xl.alloc (.cells #[.int .u64 7, .int .i64 (-1), .string ⟨#[]⟩, .int .u64 8, .int .i64 1, .string ⟨#[]⟩, .int .u64 9, .int .i64 0, .string ⟨#[64]⟩] 28)
  replace hB := hB.alloc hB.size (.cells #[.int .u64 7, .int .i64 (-1), .string ⟨#[]⟩, .int .u64 8, .int .i64 1, .string ⟨#[]⟩, .int .u64 9, .int .i64 0, .string ⟨#[64]⟩] 28)
  obtain ⟨xf0, xfz0, xf1, xfz1, xf2, xfz2, xf3, xfz3, xf4, xfz4⟩ := xf.f5
  obtain ⟨xa0, xaz0, xa1, xaz1, xa2, xaz2, xa3, xaz3, xa4, xaz4, xa5, xaz5⟩ := xa.f6
  obtain ⟨xl0, xlz0, xl1, xlz1, xl2, xlz2, xl3, xlz3, xl4, xlz4, xl5, xlz5, xl6, xlz6, xl7, xlz7, xl8, xlz8⟩ := xl.f9
  obtain ⟨xb0, xbz0, xb1, xbz1, xb2, xbz2, xb3, xbz3, xb4, xbz4, xb5, xbz5, xb6, xbz6, xb7, xbz7, xb8, xbz8⟩ := xb.f9
  have hb : RowsAt 3 stpV ((V2.alloc (.cells #[.string F1.b0, .string F1.b1, .int .i64 F1.e0, .int .i64 F1.e1, .int .i64 F1.lim, .int .i64 1, .int .u64 7, .bool true, .int .u64 8] 43)).alloc (.cells #[.int .u64 7, .int .i64 (-1), .string ⟨#[]⟩, .int .u64 8, .int .i64 1, .string ⟨#[]⟩, .int .u64 9, .int .i64 0, .string ⟨#[64]⟩] 28)) (some ⟨V2.heap.size + 1, 0, none⟩) jn1 := by have h := RowsAt.lit (cv := stpV) (n := 3) (by decide) (fun _ => rfl) (V2.alloc (.cells #[.string F1.b0, .string F1.b1, .int .i64 F1.e0, .int .i64 F1.e1, .int .i64 F1.lim, .int .i64 1, .int .u64 7, .bool true, .int .u64 8] 43)) 28 jn1; rw [World.size_alloc] at h; exact h
  rw [hs1] at hb
  refine (TR1.out _ _ hb).mono ?_
  rintro e V3 ⟨rfl, hk⟩
  clear xf0 xfz0 xf1 xfz1 xf2 xfz2 xf3 xfz3 xf4 xfz4 xa0 xaz0 xa1 xaz1 xa2 xaz2 xa3 xaz3 xa4 xaz4 xa5 xaz5 xl0 xlz0 xl1 xlz1 xl2 xlz2 xl3 xlz3 xl4 xlz4 xl5 xlz5 xl6 xlz6 xl7 xlz7 xl8 xlz8 xb0 xbz0 xb1 xbz1 xb2 xbz2 xb3 xbz3 xb4 xbz4 xb5 xbz5 xb6 xbz6 xb7 xbz7 xb8 xbz8
  replace hB := below_seq hB hk
  replace xf := xf.seq hk
  replace xa := xa.seq hk
  replace xl := xl.seq hk
  replace xb := xb.seq hk
  clear hk
  have xm := Box.new 43 V3 [.string F2.b0, .string F2.b1, .int .i64 F2.e0, .int .i64 F2.e1, .int .i64 F2.lim, .int .i64 ja, .int .u64 (jb : Int), .bool false, .int .u64 (jc : Int)]
  have ne_xm_xf : V3.heap.size ≠ V1.heap.size := Nat.ne_of_gt xf.lt
  have ne_xm_xa : V3.heap.size ≠ V1.heap.size + 1 := Nat.ne_of_gt xa.lt
  have ne_xm_xl : V3.heap.size ≠ V2.heap.size := Nat.ne_of_gt xl.lt
  have ne_xm_xb : V3.heap.size ≠ V2.heap.size + 1 := Nat.ne_of_gt xb.lt
  have le_xm : W.heap.size ≤ V3.heap.size := hB.size
  replace xf := xf.alloc (.cells #[.string F2.b0, .string F2.b1, .int .i64 F2.e0, .int .i64 F2.e1, .int .i64 F2.lim, .int .i64 ja, .int .u64 (jb : Int), .bool false, .int .u64 (jc : Int)] 43)
  replace xa := xa.alloc (.cells #[.string F2.b0, .string F2.b1, .int .i64 F2.e0, .int .i64 F2.e1, .int .i64 F2.lim, .int .i64 ja, .int .u64 (jb : Int), .bool false, .int .u64 (jc : Int)] 43)
  replace xl := xl.alloc (.cells #[.string F2.b0, .string F2.b1, .int .i64 F2.e0, .int .i64 F2.e1, .int .i64 F2.lim, .int .i64 ja, .int .u64 (jb : Int), .bool false, .int .u64 (jc : Int)] 43)
  replace xb := xb.alloc (.cells #[.string F2.b0, .string F2.b1, .int .i64 F2.e0, .int .i64 F2.e1, .int .i64 F2.lim, .int .i64 ja, .int .u64 (jb : Int), .bool false, .int .u64 (jc : Int)] 43)
  replace hB := hB.alloc hB.size (.cells #[.string F2.b0, .string F2.b1, .int .i64 F2.e0, .int .i64 F2.e1, .int .i64 F2.lim, .int .i64 ja, .int .u64 (jb : Int), .bool false, .int .u64 (jc : Int)] 43)
  obtain ⟨xf0, xfz0, xf1, xfz1, xf2, xfz2, xf3, xfz3, xf4, xfz4⟩ := xf.f5
  obtain ⟨xa0, xaz0, xa1, xaz1, xa2, xaz2, xa3, xaz3, xa4, xaz4, xa5, xaz5⟩ := xa.f6
  obtain ⟨xl0, xlz0, xl1, xlz1, xl2, xlz2, xl3, xlz3, xl4, xlz4, xl5, xlz5, xl6, xlz6, xl7, xlz7, xl8, xlz8⟩ := xl.f9
  obtain ⟨xb0, xbz0, xb1, xbz1, xb2, xbz2, xb3, xbz3, xb4, xbz4, xb5, xbz5, xb6, xbz6, xb7, xbz7, xb8, xbz8⟩ := xb.f9
  obtain ⟨xm0, xmz0, xm1, xmz1, xm2, xmz2, xm3, xmz3, xm4, xmz4, xm5, xmz5, xm6, xmz6, xm7, xmz7, xm8, xmz8⟩ := xm.f9
  clear hb
  go_wp2_with fail
  refine (TS0.out _).mono ?_
  rintro e V4 ⟨rfl, hk⟩
  clear xf0 xfz0 xf1 xfz1 xf2 xfz2 xf3 xfz3 xf4 xfz4 xa0 xaz0 xa1 xaz1 xa2 xaz2 xa3 xaz3 xa4 xaz4 xa5 xaz5 xl0 xlz0 xl1 xlz1 xl2 xlz2 xl3 xlz3 xl4 xlz4 xl5 xlz5 xl6 xlz6 xl7 xlz7 xl8 xlz8 xb0 xbz0 xb1 xbz1 xb2 xbz2 xb3 xbz3 xb4 xbz4 xb5 xbz5 xb6 xbz6 xb7 xbz7 xb8 xbz8 xm0 xmz0 xm1 xmz1 xm2 xmz2 xm3 xmz3 xm4 xmz4 xm5 xmz5 xm6 xmz6 xm7 xmz7 xm8 xmz8
  replace hB := below_seq hB hk
  replace xf := xf.seq hk
  replace xa := xa.seq hk
  replace xl := xl.seq hk
  replace xb := xb.seq hk
  replace xm := xm.seq hk
  clear hk
  obtain ⟨xf0, xfz0, xf1, xfz1, xf2, xfz2, xf3, xfz3, xf4, xfz4⟩ := xf.f5
  obtain ⟨xa0, xaz0, xa1, xaz1, xa2, xaz2, xa3, xaz3, xa4, xaz4, xa5, xaz5⟩ := xa.f6
  obtain ⟨xl0, xlz0, xl1, xlz1, xl2, xlz2, xl3, xlz3, xl4, xlz4, xl5, xlz5, xl6, xlz6, xl7, xlz7, xl8, xlz8⟩ := xl.f9
  obtain ⟨xb0, xbz0, xb1, xbz1, xb2, xbz2, xb3, xbz3, xb4, xbz4, xb5, xbz5, xb6, xbz6, xb7, xbz7, xb8, xbz8⟩ := xb.f9
  obtain ⟨xm0, xmz0, xm1, xmz1, xm2, xmz2, xm3, xmz3, xm4, xmz4, xm5, xmz5, xm6, xmz6, xm7, xmz7, xm8, xmz8⟩ := xm.f9
  go_wp2_with fail
  refine (TS1.out _).mono ?_
  rintro e V5 ⟨rfl, hk⟩
  clear xf0 xfz0 xf1 xfz1 xf2 xfz2 xf3 xfz3 xf4 xfz4 xa0 xaz0 xa1 xaz1 xa2 xaz2 xa3 xaz3 xa4 xaz4 xa5 xaz5 xl0 xlz0 xl1 xlz1 xl2 xlz2 xl3 xlz3 xl4 xlz4 xl5 xlz5 xl6 xlz6 xl7 xlz7 xl8 xlz8 xb0 xbz0 xb1 xbz1 xb2 xbz2 xb3 xbz3 xb4 xbz4 xb5 xbz5 xb6 xbz6 xb7 xbz7 xb8 xbz8 xm0 xmz0 xm1 xmz1 xm2 xmz2 xm3 xmz3 xm4 xmz4 xm5 xmz5 xm6 xmz6 xm7 xmz7 xm8 xmz8
  replace hB := below_seq hB hk
  replace xf := xf.seq hk
  replace xa := xa.seq hk
  replace xl := xl.seq hk
  replace xb := xb.seq hk
  replace xm := xm.seq hk
  clear hk
  obtain ⟨xf0, xfz0, xf1, xfz1, xf2, xfz2, xf3, xfz3, xf4, xfz4⟩ := xf.f5
  obtain ⟨xa0, xaz0, xa1, xaz1, xa2, xaz2, xa3, xaz3, xa4, xaz4, xa5, xaz5⟩ := xa.f6
  obtain ⟨xl0, xlz0, xl1, xlz1, xl2, xlz2, xl3, xlz3, xl4, xlz4, xl5, xlz5, xl6, xlz6, xl7, xlz7, xl8, xlz8⟩ := xl.f9
  obtain ⟨xb0, xbz0, xb1, xbz1, xb2, xbz2, xb3, xbz3, xb4, xbz4, xb5, xbz5, xb6, xbz6, xb7, xbz7, xb8, xbz8⟩ := xb.f9
  obtain ⟨xm0, xmz0, xm1, xmz1, xm2, xmz2, xm3, xmz3, xm4, xmz4, xm5, xmz5, xm6, xmz6, xm7, xmz7, xm8, xmz8⟩ := xm.f9
  go_wp2_with fail
  refine (TS2.out _).mono ?_
  rintro e V6 ⟨rfl, hk⟩
  clear xf0 xfz0 xf1 xfz1 xf2 xfz2 xf3 xfz3 xf4 xfz4 xa0 xaz0 xa1 xaz1 xa2 xaz2 xa3 xaz3 xa4 xaz4 xa5 xaz5 xl0 xlz0 xl1 xlz1 xl2 xlz2 xl3 xlz3 xl4 xlz4 xl5 xlz5 xl6 xlz6 xl7 xlz7 xl8 xlz8 xb0 xbz0 xb1 xbz1 xb2 xbz2 xb3 xbz3 xb4 xbz4 xb5 xbz5 xb6 xbz6 xb7 xbz7 xb8 xbz8 xm0 xmz0 xm1 xmz1 xm2 xmz2 xm3 xmz3 xm4 xmz4 xm5 xmz5 xm6 xmz6 xm7 xmz7 xm8 xmz8
  replace hB := below_seq hB hk
  replace xf := xf.seq hk
  replace xa := xa.seq hk
  replace xl := xl.seq hk
  replace xb := xb.seq hk
  replace xm := xm.seq hk
  clear hk
  obtain ⟨xf0, xfz0, xf1, xfz1, xf2, xfz2, xf3, xfz3, xf4, xfz4⟩ := xf.f5
  obtain ⟨xa0, xaz0, xa1, xaz1, xa2, xaz2, xa3, xaz3, xa4, xaz4, xa5, xaz5⟩ := xa.f6
  obtain ⟨xl0, xlz0, xl1, xlz1, xl2, xlz2, xl3, xlz3, xl4, xlz4, xl5, xlz5, xl6, xlz6, xl7, xlz7, xl8, xlz8⟩ := xl.f9
  obtain ⟨xb0, xbz0, xb1, xbz1, xb2, xbz2, xb3, xbz3, xb4, xbz4, xb5, xbz5, xb6, xbz6, xb7, xbz7, xb8, xbz8⟩ := xb.f9
  obtain ⟨xm0, xmz0, xm1, xmz1, xm2, xmz2, xm3, xmz3, xm4, xmz4, xm5, xmz5, xm6, xmz6, xm7, xmz7, xm8, xmz8⟩ := xm.f9
  go_wp2_with fail
  refine (TW.out _).mono ?_
  rintro e V7 ⟨rfl, hk⟩
  clear xf0 xfz0 xf1 xfz1 xf2 xfz2 xf3 xfz3 xf4 xfz4 xa0 xaz0 xa1 xaz1 xa2 xaz2 xa3 xaz3 xa4 xaz4 xa5 xaz5 xl0 xlz0 xl1 xlz1 xl2 xlz2 xl3 xlz3 xl4 xlz4 xl5 xlz5 xl6 xlz6 xl7 xlz7 xl8 xlz8 xb0 xbz0 xb1 xbz1 xb2 xbz2 xb3 xbz3 xb4 xbz4 xb5 xbz5 xb6 xbz6 xb7 xbz7 xb8 xbz8 xm0 xmz0 xm1 xmz1 xm2 xmz2 xm3 xmz3 xm4 xmz4 xm5 xmz5 xm6 xmz6 xm7 xmz7 xm8 xmz8
  replace hB := below_seq hB hk
  replace xf := xf.seq hk
  replace xa := xa.seq hk
  replace xl := xl.seq hk
  replace xb := xb.seq hk
  replace xm := xm.seq hk
  clear hk
  obtain ⟨xf0, xfz0, xf1, xfz1, xf2, xfz2, xf3, xfz3, xf4, xfz4⟩ := xf.f5
  obtain ⟨xa0, xaz0, xa1, xaz1, xa2, xaz2, xa3, xaz3, xa4, xaz4, xa5, xaz5⟩ := xa.f6
  obtain ⟨xl0, xlz0, xl1, xlz1, xl2, xlz2, xl3, xlz3, xl4, xlz4, xl5, xlz5, xl6, xlz6, xl7, xlz7, xl8, xlz8⟩ := xl.f9
  obtain ⟨xb0, xbz0, xb1, xbz1, xb2, xbz2, xb3, xbz3, xb4, xbz4, xb5, xbz5, xb6, xbz6, xb7, xbz7, xb8, xbz8⟩ := xb.f9
  obtain ⟨xm0, xmz0, xm1, xmz1, xm2, xmz2, xm3, xmz3, xm4, xmz4, xm5, xmz5, xm6, xmz6, xm7, xmz7, xm8, xmz8⟩ := xm.f9
  go_wp2
  go_ret
  exact ⟨rfl, hB⟩

end Go.Proofs.YthmpjoiifglbjaaGreat

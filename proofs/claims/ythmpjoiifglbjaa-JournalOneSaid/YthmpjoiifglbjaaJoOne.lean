/- A step that is cut, from any log that began with a new flash, leaves the state that was, or its own; one that is not cut is acknowledged, or told an error, and then nothing changes (JournalOne); no condition. -/
import Derived.Test.YthmpjoiifglbjaaJourLaw
import Derived.Test.YthmpjoiifglbjaaJourOpen
import Derived.Deep.RegionHeld3
import Derived.WalkLawsBesides
import Derived.WalkSpells
import Derived.IntWalk
import Derived.Lib.Hide
import Derived.Test.YthmpjoiifglbjaaBox
import Derived.Test.YthmpjoiifglbjaaFlashEq
import Derived.ProofKit
import Derived.OpenShut
import Derived.ChangeMaps5
import Derived.Test.YthmpjoiifglbjaaInts
namespace Go.Proofs.Ythmpjoiifglbjaa.JournalOne
open Go.ChangeShapes Go.WideShapes Go.ChangeAt Go.RowKit Go.ChangeMaps
set_option linter.unusedVariables false
set_option linter.unusedSimpArgs false
attribute [local go_sem] eqS2 eqI2 eqS2t eqI2t

set_option maxRecDepth 100000 in
set_option maxHeartbeats 3000000 in
theorem walk (n : UInt8) (m : UInt8) (l : List Stp) (lA : Option Addr) (lc : Nat) (s : Stp) (W : World) (hl : RowsAt 3 stpV W lA l) (hlo : ∀ o ∈ l, o.ok) (hl1 : l.length ≤ lc) (hl2 : lc ≤ maxLen) (hs : s.ok) :
    Calls Try.prog 4 #[.int .u8 (n.toNat : Int), .int .u8 (m.toNat : Int), .slice lA l.length lc, .agg #[.int .u64 (s.data : Int), .int .i64 s.cut, .string s.mask]] W fun e W' => e = .returned (.bool true) ∧ Below W.heap.size W W' := by
  obtain ⟨K, hK⟩ : ∃ K : Nat, K = 1 + n.toNat % 12 := ⟨_, rfl⟩
  have hK12 : 1 ≤ K ∧ K ≤ 12 := by omega
  have k0 : wrap64 (n.toNat : Int) = (n.toNat : Int) := w64_u8 n
  have kw : (K : Int) = 1 + (n.toNat : Int) % 12 := by omega
  have km : wrap64 (m.toNat : Int) = (m.toNat : Int) := w64_u8 m
  have kml := m.toNat_lt
  have hS := start_li hK12 (lim := (m.toNat : Int)) (by omega)
  have hF := newF_fit ((24 * K + 24 : Nat) : Int) (m.toNat : Int) (by omega)
  have hL : (newF ((24 * K + 24 : Nat) : Int) (m.toNat : Int)).lim = (m.toNat : Int) := (new_ji hK12 (lim := (m.toNat : Int)) (by omega)).2.2.1
  have TZ := Lib.hid (fun (V : World) => (show Calls Try.prog 9 #[.int .i64 (1 + (n.toNat : Int) % 12)] V fun e W' => e = .returned (.int .i64 ((24 * K + 24 : Nat) : Int)) ∧ W' = V from by have h := ref05Size (K : Int) V; rw [show sizeF (K : Int) = ((24 * K + 24 : Nat) : Int) from by unfold sizeF; rw [if_pos (by omega)]; omega] at h; rw [kw] at h; exact h))
  clear kw
  have TN := Lib.hid (fun (V : World) => flNew ((24 * K + 24 : Nat) : Int) (m.toNat : Int) V)
  obtain ⟨F, hFF⟩ : ∃ F, newF ((24 * K + 24 : Nat) : Int) (m.toNat : Int) = F := ⟨_, rfl⟩
  rw [hFF] at hS hF TN hL
  replace hL := Lib.hid hL
  obtain ⟨Z, hZ⟩ : ∃ Z : Int, ((24 * K + 24 : Nat) : Int) = Z := ⟨_, rfl⟩
  rw [hZ] at TZ TN
  clear hZ
  have hlh := Lib.hid hl
  clear hl
  by_cases hbig : big12 F l = true
  · have TBg := Lib.hid (fun (V : World) (h : RowsAt 3 stpV V lA l) => (show Calls Try.prog 10 #[.agg #[.string F.b0, .string F.b1, .int .i64 F.e0, .int .i64 F.e1, .int .i64 F.lim], .slice lA l.length lc] V fun e W' => e = .returned (.bool true) ∧ Below V.heap.size V W' from by have k := law12Big F l lA lc V hlo h ⟨hl1, hl2⟩; rwa [hbig] at k))
    clear hbig
    have hB : Below W.heap.size W (W.alloc (.cells #[.int .u64 (s.data : Int), .int .i64 s.cut, .string s.mask] 36)) := ((Below.refl _ _).alloc (Nat.le_refl _) _)
    have xs := (Box.new 36 W [.int .u64 (s.data : Int), .int .i64 s.cut, .string s.mask])
    go_enter Try.func4, Try.ntmps4
    have xs0 := xs.cell 0 rfl
    have xsz0 := xs.frozen 0
    have xs1 := xs.cell 1 rfl
    have xsz1 := xs.frozen 1
    have xs2 := xs.cell 2 rfl
    have xsz2 := xs.frozen 2
    go_wp2_with fail
    refine (TZ.out _).mono ?_
    rintro e w' ⟨rfl, hw⟩
    rw [hw]
    clear hw w'
    go_wp2_with fail
    refine (TN.out _).mono ?_
    rintro e V1 ⟨rfl, hk⟩
    clear xs0 xsz0 xs1 xsz1 xs2 xsz2
    replace hB := below_seq hB hk
    replace xs := xs.seq hk
    clear hk
    have xf := Box.new 26 V1 [.string F.b0, .string F.b1, .int .i64 F.e0, .int .i64 F.e1, .int .i64 F.lim]
    have ne_xf_xs : V1.heap.size ≠ W.heap.size := Nat.ne_of_gt xs.lt
    have le_xf : W.heap.size ≤ V1.heap.size := hB.size
    replace xs := xs.alloc (.cells #[.string F.b0, .string F.b1, .int .i64 F.e0, .int .i64 F.e1, .int .i64 F.lim] 26)
    replace hB := hB.alloc hB.size (.cells #[.string F.b0, .string F.b1, .int .i64 F.e0, .int .i64 F.e1, .int .i64 F.lim] 26)
    have xs0 := xs.cell 0 rfl
    have xsz0 := xs.frozen 0
    have xs1 := xs.cell 1 rfl
    have xsz1 := xs.frozen 1
    have xs2 := xs.cell 2 rfl
    have xsz2 := xs.frozen 2
    have xf0 := xf.cell 0 rfl
    have xfz0 := xf.frozen 0
    have xf1 := xf.cell 1 rfl
    have xfz1 := xf.frozen 1
    have xf2 := xf.cell 2 rfl
    have xfz2 := xf.frozen 2
    have xf3 := xf.cell 3 rfl
    have xfz3 := xf.frozen 3
    have xf4 := xf.cell 4 rfl
    have xfz4 := xf.frozen 4
    go_wp2_with fail
    refine (TBg.out _ (hlh.out.seq hB)).mono ?_
    rintro e V2 ⟨rfl, hk⟩
    clear xs0 xsz0 xs1 xsz1 xs2 xsz2 xf0 xfz0 xf1 xfz1 xf2 xfz2 xf3 xfz3 xf4 xfz4
    replace hB := below_seq hB hk
    replace xs := xs.seq hk
    replace xf := xf.seq hk
    clear hk
    have xs0 := xs.cell 0 rfl
    have xsz0 := xs.frozen 0
    have xs1 := xs.cell 1 rfl
    have xsz1 := xs.frozen 1
    have xs2 := xs.cell 2 rfl
    have xsz2 := xs.frozen 2
    have xf0 := xf.cell 0 rfl
    have xfz0 := xf.frozen 0
    have xf1 := xf.cell 1 rfl
    have xfz1 := xf.frozen 1
    have xf2 := xf.cell 2 rfl
    have xfz2 := xf.frozen 2
    have xf3 := xf.cell 3 rfl
    have xfz3 := xf.frozen 3
    have xf4 := xf.cell 4 rfl
    have xfz4 := xf.frozen 4
    go_wp2_with fail
    refine (shown12 _).mono ?_
    rintro e V3 ⟨rfl, hk⟩
    clear xs0 xsz0 xs1 xsz1 xs2 xsz2 xf0 xfz0 xf1 xfz1 xf2 xfz2 xf3 xfz3 xf4 xfz4
    replace hB := below_seq hB hk
    replace xs := xs.seq hk
    replace xf := xf.seq hk
    clear hk
    have xs0 := xs.cell 0 rfl
    have xsz0 := xs.frozen 0
    have xs1 := xs.cell 1 rfl
    have xsz1 := xs.frozen 1
    have xs2 := xs.cell 2 rfl
    have xsz2 := xs.frozen 2
    have xf0 := xf.cell 0 rfl
    have xfz0 := xf.frozen 0
    have xf1 := xf.cell 1 rfl
    have xfz1 := xf.frozen 1
    have xf2 := xf.cell 2 rfl
    have xfz2 := xf.frozen 2
    have xf3 := xf.cell 3 rfl
    have xfz3 := xf.frozen 3
    have xf4 := xf.cell 4 rfl
    have xfz4 := xf.frozen 4
    go_wp2
    go_ret
    exact ⟨rfl, hB⟩
  · have hbig2 : big12 F l = false := by cases h : big12 F l with | false => rfl | true => exact absurd h hbig
    have TBg := Lib.hid (fun (V : World) (h : RowsAt 3 stpV V lA l) => (show Calls Try.prog 10 #[.agg #[.string F.b0, .string F.b1, .int .i64 F.e0, .int .i64 F.e1, .int .i64 F.lim], .slice lA l.length lc] V fun e W' => e = .returned (.bool false) ∧ Below V.heap.size V W' from by have k := law12Big F l lA lc V hlo h ⟨hl1, hl2⟩; rwa [hbig2] at k))
    have hl60 := big12_no hbig2
    clear hbig hbig2
    clear hFF hL kml hK
    by_cases hbig : big12 F [s] = true
    · have TB2 := Lib.hid (fun (A : Option Addr) (V : World) (h : RowsAt 3 stpV V A [s]) => (show Calls Try.prog 10 #[.agg #[.string F.b0, .string F.b1, .int .i64 F.e0, .int .i64 F.e1, .int .i64 F.lim], .slice A 1 1] V fun e W' => e = .returned (.bool true) ∧ Below V.heap.size V W' from by have k := law12Big F [s] A 1 V (fun o ho => by rw [List.mem_singleton.1 ho]; exact hs) h ⟨Nat.le_refl _, by unfold maxLen; decide⟩; rwa [hbig] at k))
      clear hbig
      have hB : Below W.heap.size W (W.alloc (.cells #[.int .u64 (s.data : Int), .int .i64 s.cut, .string s.mask] 36)) := ((Below.refl _ _).alloc (Nat.le_refl _) _)
      have xs := (Box.new 36 W [.int .u64 (s.data : Int), .int .i64 s.cut, .string s.mask])
      go_enter Try.func4, Try.ntmps4
      have xs0 := xs.cell 0 rfl
      have xsz0 := xs.frozen 0
      have xs1 := xs.cell 1 rfl
      have xsz1 := xs.frozen 1
      have xs2 := xs.cell 2 rfl
      have xsz2 := xs.frozen 2
      go_wp2_with fail
      refine (TZ.out _).mono ?_
      rintro e w' ⟨rfl, hw⟩
      rw [hw]
      clear hw w'
      go_wp2_with fail
      refine (TN.out _).mono ?_
      rintro e V1 ⟨rfl, hk⟩
      clear xs0 xsz0 xs1 xsz1 xs2 xsz2
      replace hB := below_seq hB hk
      replace xs := xs.seq hk
      clear hk
      have xf := Box.new 26 V1 [.string F.b0, .string F.b1, .int .i64 F.e0, .int .i64 F.e1, .int .i64 F.lim]
      have ne_xf_xs : V1.heap.size ≠ W.heap.size := Nat.ne_of_gt xs.lt
      have le_xf : W.heap.size ≤ V1.heap.size := hB.size
      replace xs := xs.alloc (.cells #[.string F.b0, .string F.b1, .int .i64 F.e0, .int .i64 F.e1, .int .i64 F.lim] 26)
      replace hB := hB.alloc hB.size (.cells #[.string F.b0, .string F.b1, .int .i64 F.e0, .int .i64 F.e1, .int .i64 F.lim] 26)
      have xs0 := xs.cell 0 rfl
      have xsz0 := xs.frozen 0
      have xs1 := xs.cell 1 rfl
      have xsz1 := xs.frozen 1
      have xs2 := xs.cell 2 rfl
      have xsz2 := xs.frozen 2
      have xf0 := xf.cell 0 rfl
      have xfz0 := xf.frozen 0
      have xf1 := xf.cell 1 rfl
      have xfz1 := xf.frozen 1
      have xf2 := xf.cell 2 rfl
      have xfz2 := xf.frozen 2
      have xf3 := xf.cell 3 rfl
      have xfz3 := xf.frozen 3
      have xf4 := xf.cell 4 rfl
      have xfz4 := xf.frozen 4
      go_wp2_with fail
      refine (TBg.out _ (hlh.out.seq hB)).mono ?_
      rintro e V2 ⟨rfl, hk⟩
      clear xs0 xsz0 xs1 xsz1 xs2 xsz2 xf0 xfz0 xf1 xfz1 xf2 xfz2 xf3 xfz3 xf4 xfz4
      replace hB := below_seq hB hk
      replace xs := xs.seq hk
      replace xf := xf.seq hk
      clear hk
      have xs0 := xs.cell 0 rfl
      have xsz0 := xs.frozen 0
      have xs1 := xs.cell 1 rfl
      have xsz1 := xs.frozen 1
      have xs2 := xs.cell 2 rfl
      have xsz2 := xs.frozen 2
      have xf0 := xf.cell 0 rfl
      have xfz0 := xf.frozen 0
      have xf1 := xf.cell 1 rfl
      have xfz1 := xf.frozen 1
      have xf2 := xf.cell 2 rfl
      have xfz2 := xf.frozen 2
      have xf3 := xf.cell 3 rfl
      have xfz3 := xf.frozen 3
      have xf4 := xf.cell 4 rfl
      have xfz4 := xf.frozen 4
      go_wp2_with fail
      clear xs0 xsz0 xs1 xsz1 xs2 xsz2 xf0 xfz0 xf1 xfz1 xf2 xfz2 xf3 xfz3 xf4 xfz4
      have xl := Box.new 36 V2 [.int .u64 (s.data : Int), .int .i64 s.cut, .string s.mask]
      have ne_xl_xs : V2.heap.size ≠ W.heap.size := Nat.ne_of_gt xs.lt
      have ne_xl_xf : V2.heap.size ≠ V1.heap.size := Nat.ne_of_gt xf.lt
      have le_xl : W.heap.size ≤ V2.heap.size := hB.size
      replace xs := xs.alloc (.cells #[.int .u64 (s.data : Int), .int .i64 s.cut, .string s.mask] 36)
      replace xf := xf.alloc (.cells #[.int .u64 (s.data : Int), .int .i64 s.cut, .string s.mask] 36)
      replace hB := hB.alloc hB.size (.cells #[.int .u64 (s.data : Int), .int .i64 s.cut, .string s.mask] 36)
      have xs0 := xs.cell 0 rfl
      have xsz0 := xs.frozen 0
      have xs1 := xs.cell 1 rfl
      have xsz1 := xs.frozen 1
      have xs2 := xs.cell 2 rfl
      have xsz2 := xs.frozen 2
      have xf0 := xf.cell 0 rfl
      have xfz0 := xf.frozen 0
      have xf1 := xf.cell 1 rfl
      have xfz1 := xf.frozen 1
      have xf2 := xf.cell 2 rfl
      have xfz2 := xf.frozen 2
      have xf3 := xf.cell 3 rfl
      have xfz3 := xf.frozen 3
      have xf4 := xf.cell 4 rfl
      have xfz4 := xf.frozen 4
      have xl0 := xl.cell 0 rfl
      have xlz0 := xl.frozen 0
      have xl1 := xl.cell 1 rfl
      have xlz1 := xl.frozen 1
      have xl2 := xl.cell 2 rfl
      have xlz2 := xl.frozen 2
      have h1 : RowsAt 3 stpV (V2.alloc (.cells #[.int .u64 (s.data : Int), .int .i64 s.cut, .string s.mask] 36)) (some ⟨V2.heap.size, 0, none⟩) [s] := RowsAt.lit (cv := stpV) (n := 3) (by decide) (fun _ => rfl) _ 36 [s]
      refine (TB2.out _ _ h1).mono ?_
      rintro e V3 ⟨rfl, hk⟩
      clear xs0 xsz0 xs1 xsz1 xs2 xsz2 xf0 xfz0 xf1 xfz1 xf2 xfz2 xf3 xfz3 xf4 xfz4 xl0 xlz0 xl1 xlz1 xl2 xlz2
      replace hB := below_seq hB hk
      replace xs := xs.seq hk
      replace xf := xf.seq hk
      replace xl := xl.seq hk
      clear hk
      have xs0 := xs.cell 0 rfl
      have xsz0 := xs.frozen 0
      have xs1 := xs.cell 1 rfl
      have xsz1 := xs.frozen 1
      have xs2 := xs.cell 2 rfl
      have xsz2 := xs.frozen 2
      have xf0 := xf.cell 0 rfl
      have xfz0 := xf.frozen 0
      have xf1 := xf.cell 1 rfl
      have xfz1 := xf.frozen 1
      have xf2 := xf.cell 2 rfl
      have xfz2 := xf.frozen 2
      have xf3 := xf.cell 3 rfl
      have xfz3 := xf.frozen 3
      have xf4 := xf.cell 4 rfl
      have xfz4 := xf.frozen 4
      have xl0 := xl.cell 0 rfl
      have xlz0 := xl.frozen 0
      have xl1 := xl.cell 1 rfl
      have xlz1 := xl.frozen 1
      have xl2 := xl.cell 2 rfl
      have xlz2 := xl.frozen 2
      clear h1
      go_wp2_with fail
      refine (shown12 _).mono ?_
      rintro e V4 ⟨rfl, hk⟩
      clear xs0 xsz0 xs1 xsz1 xs2 xsz2 xf0 xfz0 xf1 xfz1 xf2 xfz2 xf3 xfz3 xf4 xfz4 xl0 xlz0 xl1 xlz1 xl2 xlz2
      replace hB := below_seq hB hk
      replace xs := xs.seq hk
      replace xf := xf.seq hk
      replace xl := xl.seq hk
      clear hk
      have xs0 := xs.cell 0 rfl
      have xsz0 := xs.frozen 0
      have xs1 := xs.cell 1 rfl
      have xsz1 := xs.frozen 1
      have xs2 := xs.cell 2 rfl
      have xsz2 := xs.frozen 2
      have xf0 := xf.cell 0 rfl
      have xfz0 := xf.frozen 0
      have xf1 := xf.cell 1 rfl
      have xfz1 := xf.frozen 1
      have xf2 := xf.cell 2 rfl
      have xfz2 := xf.frozen 2
      have xf3 := xf.cell 3 rfl
      have xfz3 := xf.frozen 3
      have xf4 := xf.cell 4 rfl
      have xfz4 := xf.frozen 4
      have xl0 := xl.cell 0 rfl
      have xlz0 := xl.frozen 0
      have xl1 := xl.cell 1 rfl
      have xlz1 := xl.frozen 1
      have xl2 := xl.cell 2 rfl
      have xlz2 := xl.frozen 2
      go_wp2
      go_ret
      exact ⟨rfl, hB⟩
    · have hbig2 : big12 F [s] = false := by cases h : big12 F [s] with | false => rfl | true => exact absurd h hbig
      have TB2 := Lib.hid (fun (A : Option Addr) (V : World) (h : RowsAt 3 stpV V A [s]) => (show Calls Try.prog 10 #[.agg #[.string F.b0, .string F.b1, .int .i64 F.e0, .int .i64 F.e1, .int .i64 F.lim], .slice A 1 1] V fun e W' => e = .returned (.bool false) ∧ Below V.heap.size V W' from by have k := law12Big F [s] A 1 V (fun o ho => by rw [List.mem_singleton.1 ho]; exact hs) h ⟨Nat.le_refl _, by unfold maxLen; decide⟩; rwa [hbig2] at k))
      clear hbig hbig2
      obtain ⟨x, hx⟩ : ∃ x, runJ (startJ F) l = x := ⟨_, rfl⟩
      obtain ⟨HX, HXl⟩ := run_li (f := F) (c := 0) l (startJ F) hS (fun s hs => (hlo s hs).nd)
      have hxf := runJ_fit l (startJ F) hF
      rw [hx] at HX HXl hxf
      rw [Nat.zero_add] at HX
      have TRu := Lib.hid (fun (V : World) (h : RowsAt 3 stpV V lA l) => (show Calls Try.prog 14 #[.agg #[.string F.b0, .string F.b1, .int .i64 F.e0, .int .i64 F.e1, .int .i64 F.lim], .slice lA l.length lc] V fun e W' => e = .returned (.agg #[.string x.f.b0, .string x.f.b1, .int .i64 x.f.e0, .int .i64 x.f.e1, .int .i64 x.f.lim, .int .i64 x.acked, .int .u64 (x.last : Int), .bool x.flying, .int .u64 (x.flight : Int)]) ∧ Below V.heap.size V W' from by have k := own12Run F l lA lc V hF h hlo ⟨hl1, hl2⟩; rwa [hx] at k))
      clear hS
      have TSx := Lib.hid (fun (V : World) => (show Calls Try.prog 13 #[.agg #[.string x.f.b0, .string x.f.b1, .int .i64 x.f.e0, .int .i64 x.f.e1, .int .i64 x.f.lim, .int .i64 x.acked, .int .u64 (x.last : Int), .bool x.flying, .int .u64 (x.flight : Int)]] V fun e W' => e = .returned (.tuple #[.int .u64 ((pickS x.f).data : Int), .bool (decide (pickE x.f = 0))]) ∧ Below V.heap.size V W' from by have h := own12State x V hxf.ok; exact h))
      by_cases hE : (planR x.f s.data).2 = 0
      · obtain ⟨p1, p2, p3, p4, p5⟩ := put_ji HX.j hs.nd hE
        have hlen := plan_len_le x.f s.data
        have hgf := putJ_fit hxf s
        obtain ⟨g, ak, hp⟩ : ∃ g ak, putJ x.f s = (g, ak, 0) := ⟨(putJ x.f s).1, (putJ x.f s).2.1, by rw [← hE, ← put_e]⟩
        rw [hp] at p3 p4 p5 hgf
        dsimp only at p3 p4 p5 hgf
        have TPu := Lib.hid (fun (V : World) => (show Calls Try.prog 15 #[.agg #[.string x.f.b0, .string x.f.b1, .int .i64 x.f.e0, .int .i64 x.f.e1, .int .i64 x.f.lim], .agg #[.int .u64 (s.data : Int), .int .i64 s.cut, .string s.mask]] V fun e W' => e = .returned (.tuple #[.agg #[.string g.b0, .string g.b1, .int .i64 g.e0, .int .i64 g.e1, .int .i64 g.lim], .bool ak, .int .i64 0]) ∧ Below V.heap.size V W' from by have h := own12Put x.f s V hxf hs; rw [hp] at h; exact h))
        have TSg := Lib.hid (fun (V : World) => (show Calls Try.prog 13 #[.agg #[.string g.b0, .string g.b1, .int .i64 g.e0, .int .i64 g.e1, .int .i64 g.lim, .int .i64 0, .int .u64 0, .bool false, .int .u64 0]] V fun e W' => e = .returned (.tuple #[.int .u64 ((pickS g).data : Int), .bool (decide (pickE g = 0))]) ∧ Below V.heap.size V W' from by have h := own12State (startJ g) V hgf.ok; exact h))
        by_cases hc : 0 ≤ s.cut ∧ s.cut ≤ 5
        · have m1 : ¬ s.cut < 0 := by omega
          have m2 : ¬ s.cut > 5 := by omega
          rcases p3 with ⟨q1, q2⟩ | ⟨q1, q2, q3⟩
          · rw [q1, q2] at TSg
            generalize (pickS x.f).data = v at *
            generalize decide (pickE x.f = 0) = b at *
            clear q1 q2 hp hE p1 p2 hlen hgf HX HXl hxf hx p5 p4
            cases b
            · have hB : Below W.heap.size W (W.alloc (.cells #[.int .u64 (s.data : Int), .int .i64 s.cut, .string s.mask] 36)) := ((Below.refl _ _).alloc (Nat.le_refl _) _)
              have xs := (Box.new 36 W [.int .u64 (s.data : Int), .int .i64 s.cut, .string s.mask])
              go_enter Try.func4, Try.ntmps4
              have xs0 := xs.cell 0 rfl
              have xsz0 := xs.frozen 0
              have xs1 := xs.cell 1 rfl
              have xsz1 := xs.frozen 1
              have xs2 := xs.cell 2 rfl
              have xsz2 := xs.frozen 2
              go_wp2_with fail
              refine (TZ.out _).mono ?_
              rintro e w' ⟨rfl, hw⟩
              rw [hw]
              clear hw w'
              go_wp2_with fail
              refine (TN.out _).mono ?_
              rintro e V1 ⟨rfl, hk⟩
              clear xs0 xsz0 xs1 xsz1 xs2 xsz2
              replace hB := below_seq hB hk
              replace xs := xs.seq hk
              clear hk
              have xf := Box.new 26 V1 [.string F.b0, .string F.b1, .int .i64 F.e0, .int .i64 F.e1, .int .i64 F.lim]
              have ne_xf_xs : V1.heap.size ≠ W.heap.size := Nat.ne_of_gt xs.lt
              have le_xf : W.heap.size ≤ V1.heap.size := hB.size
              replace xs := xs.alloc (.cells #[.string F.b0, .string F.b1, .int .i64 F.e0, .int .i64 F.e1, .int .i64 F.lim] 26)
              replace hB := hB.alloc hB.size (.cells #[.string F.b0, .string F.b1, .int .i64 F.e0, .int .i64 F.e1, .int .i64 F.lim] 26)
              have xs0 := xs.cell 0 rfl
              have xsz0 := xs.frozen 0
              have xs1 := xs.cell 1 rfl
              have xsz1 := xs.frozen 1
              have xs2 := xs.cell 2 rfl
              have xsz2 := xs.frozen 2
              have xf0 := xf.cell 0 rfl
              have xfz0 := xf.frozen 0
              have xf1 := xf.cell 1 rfl
              have xfz1 := xf.frozen 1
              have xf2 := xf.cell 2 rfl
              have xfz2 := xf.frozen 2
              have xf3 := xf.cell 3 rfl
              have xfz3 := xf.frozen 3
              have xf4 := xf.cell 4 rfl
              have xfz4 := xf.frozen 4
              go_wp2_with fail
              refine (TBg.out _ (hlh.out.seq hB)).mono ?_
              rintro e V2 ⟨rfl, hk⟩
              clear xs0 xsz0 xs1 xsz1 xs2 xsz2 xf0 xfz0 xf1 xfz1 xf2 xfz2 xf3 xfz3 xf4 xfz4
              replace hB := below_seq hB hk
              replace xs := xs.seq hk
              replace xf := xf.seq hk
              clear hk
              have xs0 := xs.cell 0 rfl
              have xsz0 := xs.frozen 0
              have xs1 := xs.cell 1 rfl
              have xsz1 := xs.frozen 1
              have xs2 := xs.cell 2 rfl
              have xsz2 := xs.frozen 2
              have xf0 := xf.cell 0 rfl
              have xfz0 := xf.frozen 0
              have xf1 := xf.cell 1 rfl
              have xfz1 := xf.frozen 1
              have xf2 := xf.cell 2 rfl
              have xfz2 := xf.frozen 2
              have xf3 := xf.cell 3 rfl
              have xfz3 := xf.frozen 3
              have xf4 := xf.cell 4 rfl
              have xfz4 := xf.frozen 4
              go_wp2_with fail
              clear xs0 xsz0 xs1 xsz1 xs2 xsz2 xf0 xfz0 xf1 xfz1 xf2 xfz2 xf3 xfz3 xf4 xfz4
              have xl := Box.new 36 V2 [.int .u64 (s.data : Int), .int .i64 s.cut, .string s.mask]
              have ne_xl_xs : V2.heap.size ≠ W.heap.size := Nat.ne_of_gt xs.lt
              have ne_xl_xf : V2.heap.size ≠ V1.heap.size := Nat.ne_of_gt xf.lt
              have le_xl : W.heap.size ≤ V2.heap.size := hB.size
              replace xs := xs.alloc (.cells #[.int .u64 (s.data : Int), .int .i64 s.cut, .string s.mask] 36)
              replace xf := xf.alloc (.cells #[.int .u64 (s.data : Int), .int .i64 s.cut, .string s.mask] 36)
              replace hB := hB.alloc hB.size (.cells #[.int .u64 (s.data : Int), .int .i64 s.cut, .string s.mask] 36)
              have xs0 := xs.cell 0 rfl
              have xsz0 := xs.frozen 0
              have xs1 := xs.cell 1 rfl
              have xsz1 := xs.frozen 1
              have xs2 := xs.cell 2 rfl
              have xsz2 := xs.frozen 2
              have xf0 := xf.cell 0 rfl
              have xfz0 := xf.frozen 0
              have xf1 := xf.cell 1 rfl
              have xfz1 := xf.frozen 1
              have xf2 := xf.cell 2 rfl
              have xfz2 := xf.frozen 2
              have xf3 := xf.cell 3 rfl
              have xfz3 := xf.frozen 3
              have xf4 := xf.cell 4 rfl
              have xfz4 := xf.frozen 4
              have xl0 := xl.cell 0 rfl
              have xlz0 := xl.frozen 0
              have xl1 := xl.cell 1 rfl
              have xlz1 := xl.frozen 1
              have xl2 := xl.cell 2 rfl
              have xlz2 := xl.frozen 2
              have h1 : RowsAt 3 stpV (V2.alloc (.cells #[.int .u64 (s.data : Int), .int .i64 s.cut, .string s.mask] 36)) (some ⟨V2.heap.size, 0, none⟩) [s] := RowsAt.lit (cv := stpV) (n := 3) (by decide) (fun _ => rfl) _ 36 [s]
              refine (TB2.out _ _ h1).mono ?_
              rintro e V3 ⟨rfl, hk⟩
              clear xs0 xsz0 xs1 xsz1 xs2 xsz2 xf0 xfz0 xf1 xfz1 xf2 xfz2 xf3 xfz3 xf4 xfz4 xl0 xlz0 xl1 xlz1 xl2 xlz2
              replace hB := below_seq hB hk
              replace xs := xs.seq hk
              replace xf := xf.seq hk
              replace xl := xl.seq hk
              clear hk
              have xs0 := xs.cell 0 rfl
              have xsz0 := xs.frozen 0
              have xs1 := xs.cell 1 rfl
              have xsz1 := xs.frozen 1
              have xs2 := xs.cell 2 rfl
              have xsz2 := xs.frozen 2
              have xf0 := xf.cell 0 rfl
              have xfz0 := xf.frozen 0
              have xf1 := xf.cell 1 rfl
              have xfz1 := xf.frozen 1
              have xf2 := xf.cell 2 rfl
              have xfz2 := xf.frozen 2
              have xf3 := xf.cell 3 rfl
              have xfz3 := xf.frozen 3
              have xf4 := xf.cell 4 rfl
              have xfz4 := xf.frozen 4
              have xl0 := xl.cell 0 rfl
              have xlz0 := xl.frozen 0
              have xl1 := xl.cell 1 rfl
              have xlz1 := xl.frozen 1
              have xl2 := xl.cell 2 rfl
              have xlz2 := xl.frozen 2
              clear h1
              go_wp2_with fail
              refine (shown12 _).mono ?_
              rintro e V4 ⟨rfl, hk⟩
              clear xs0 xsz0 xs1 xsz1 xs2 xsz2 xf0 xfz0 xf1 xfz1 xf2 xfz2 xf3 xfz3 xf4 xfz4 xl0 xlz0 xl1 xlz1 xl2 xlz2
              replace hB := below_seq hB hk
              replace xs := xs.seq hk
              replace xf := xf.seq hk
              replace xl := xl.seq hk
              clear hk
              have xs0 := xs.cell 0 rfl
              have xsz0 := xs.frozen 0
              have xs1 := xs.cell 1 rfl
              have xsz1 := xs.frozen 1
              have xs2 := xs.cell 2 rfl
              have xsz2 := xs.frozen 2
              have xf0 := xf.cell 0 rfl
              have xfz0 := xf.frozen 0
              have xf1 := xf.cell 1 rfl
              have xfz1 := xf.frozen 1
              have xf2 := xf.cell 2 rfl
              have xfz2 := xf.frozen 2
              have xf3 := xf.cell 3 rfl
              have xfz3 := xf.frozen 3
              have xf4 := xf.cell 4 rfl
              have xfz4 := xf.frozen 4
              have xl0 := xl.cell 0 rfl
              have xlz0 := xl.frozen 0
              have xl1 := xl.cell 1 rfl
              have xlz1 := xl.frozen 1
              have xl2 := xl.cell 2 rfl
              have xlz2 := xl.frozen 2
              go_wp2_with fail
              refine (TRu.out _ (hlh.out.seq hB)).mono ?_
              rintro e V5 ⟨rfl, hk⟩
              clear xs0 xsz0 xs1 xsz1 xs2 xsz2 xf0 xfz0 xf1 xfz1 xf2 xfz2 xf3 xfz3 xf4 xfz4 xl0 xlz0 xl1 xlz1 xl2 xlz2
              replace hB := below_seq hB hk
              replace xs := xs.seq hk
              replace xf := xf.seq hk
              replace xl := xl.seq hk
              clear hk
              have xx := Box.new 33 V5 [.string x.f.b0, .string x.f.b1, .int .i64 x.f.e0, .int .i64 x.f.e1, .int .i64 x.f.lim, .int .i64 x.acked, .int .u64 (x.last : Int), .bool x.flying, .int .u64 (x.flight : Int)]
              have ne_xx_xs : V5.heap.size ≠ W.heap.size := Nat.ne_of_gt xs.lt
              have ne_xx_xf : V5.heap.size ≠ V1.heap.size := Nat.ne_of_gt xf.lt
              have ne_xx_xl : V5.heap.size ≠ V2.heap.size := Nat.ne_of_gt xl.lt
              have le_xx : W.heap.size ≤ V5.heap.size := hB.size
              replace xs := xs.alloc (.cells #[.string x.f.b0, .string x.f.b1, .int .i64 x.f.e0, .int .i64 x.f.e1, .int .i64 x.f.lim, .int .i64 x.acked, .int .u64 (x.last : Int), .bool x.flying, .int .u64 (x.flight : Int)] 33)
              replace xf := xf.alloc (.cells #[.string x.f.b0, .string x.f.b1, .int .i64 x.f.e0, .int .i64 x.f.e1, .int .i64 x.f.lim, .int .i64 x.acked, .int .u64 (x.last : Int), .bool x.flying, .int .u64 (x.flight : Int)] 33)
              replace xl := xl.alloc (.cells #[.string x.f.b0, .string x.f.b1, .int .i64 x.f.e0, .int .i64 x.f.e1, .int .i64 x.f.lim, .int .i64 x.acked, .int .u64 (x.last : Int), .bool x.flying, .int .u64 (x.flight : Int)] 33)
              replace hB := hB.alloc hB.size (.cells #[.string x.f.b0, .string x.f.b1, .int .i64 x.f.e0, .int .i64 x.f.e1, .int .i64 x.f.lim, .int .i64 x.acked, .int .u64 (x.last : Int), .bool x.flying, .int .u64 (x.flight : Int)] 33)
              have xs0 := xs.cell 0 rfl
              have xsz0 := xs.frozen 0
              have xs1 := xs.cell 1 rfl
              have xsz1 := xs.frozen 1
              have xs2 := xs.cell 2 rfl
              have xsz2 := xs.frozen 2
              have xf0 := xf.cell 0 rfl
              have xfz0 := xf.frozen 0
              have xf1 := xf.cell 1 rfl
              have xfz1 := xf.frozen 1
              have xf2 := xf.cell 2 rfl
              have xfz2 := xf.frozen 2
              have xf3 := xf.cell 3 rfl
              have xfz3 := xf.frozen 3
              have xf4 := xf.cell 4 rfl
              have xfz4 := xf.frozen 4
              have xl0 := xl.cell 0 rfl
              have xlz0 := xl.frozen 0
              have xl1 := xl.cell 1 rfl
              have xlz1 := xl.frozen 1
              have xl2 := xl.cell 2 rfl
              have xlz2 := xl.frozen 2
              have xx0 := xx.cell 0 rfl
              have xxz0 := xx.frozen 0
              have xx1 := xx.cell 1 rfl
              have xxz1 := xx.frozen 1
              have xx2 := xx.cell 2 rfl
              have xxz2 := xx.frozen 2
              have xx3 := xx.cell 3 rfl
              have xxz3 := xx.frozen 3
              have xx4 := xx.cell 4 rfl
              have xxz4 := xx.frozen 4
              have xx5 := xx.cell 5 rfl
              have xxz5 := xx.frozen 5
              have xx6 := xx.cell 6 rfl
              have xxz6 := xx.frozen 6
              have xx7 := xx.cell 7 rfl
              have xxz7 := xx.frozen 7
              have xx8 := xx.cell 8 rfl
              have xxz8 := xx.frozen 8
              go_wp2_with fail
              refine (TSx.out _).mono ?_
              rintro e V6 ⟨rfl, hk⟩
              clear xs0 xsz0 xs1 xsz1 xs2 xsz2 xf0 xfz0 xf1 xfz1 xf2 xfz2 xf3 xfz3 xf4 xfz4 xl0 xlz0 xl1 xlz1 xl2 xlz2 xx0 xxz0 xx1 xxz1 xx2 xxz2 xx3 xxz3 xx4 xxz4 xx5 xxz5 xx6 xxz6 xx7 xxz7 xx8 xxz8
              replace hB := below_seq hB hk
              replace xs := xs.seq hk
              replace xf := xf.seq hk
              replace xl := xl.seq hk
              replace xx := xx.seq hk
              clear hk
              have xs0 := xs.cell 0 rfl
              have xsz0 := xs.frozen 0
              have xs1 := xs.cell 1 rfl
              have xsz1 := xs.frozen 1
              have xs2 := xs.cell 2 rfl
              have xsz2 := xs.frozen 2
              have xf0 := xf.cell 0 rfl
              have xfz0 := xf.frozen 0
              have xf1 := xf.cell 1 rfl
              have xfz1 := xf.frozen 1
              have xf2 := xf.cell 2 rfl
              have xfz2 := xf.frozen 2
              have xf3 := xf.cell 3 rfl
              have xfz3 := xf.frozen 3
              have xf4 := xf.cell 4 rfl
              have xfz4 := xf.frozen 4
              have xl0 := xl.cell 0 rfl
              have xlz0 := xl.frozen 0
              have xl1 := xl.cell 1 rfl
              have xlz1 := xl.frozen 1
              have xl2 := xl.cell 2 rfl
              have xlz2 := xl.frozen 2
              have xx0 := xx.cell 0 rfl
              have xxz0 := xx.frozen 0
              have xx1 := xx.cell 1 rfl
              have xxz1 := xx.frozen 1
              have xx2 := xx.cell 2 rfl
              have xxz2 := xx.frozen 2
              have xx3 := xx.cell 3 rfl
              have xxz3 := xx.frozen 3
              have xx4 := xx.cell 4 rfl
              have xxz4 := xx.frozen 4
              have xx5 := xx.cell 5 rfl
              have xxz5 := xx.frozen 5
              have xx6 := xx.cell 6 rfl
              have xxz6 := xx.frozen 6
              have xx7 := xx.cell 7 rfl
              have xxz7 := xx.frozen 7
              have xx8 := xx.cell 8 rfl
              have xxz8 := xx.frozen 8
              go_wp2_with fail
              refine (TPu.out _).mono ?_
              rintro e V7 ⟨rfl, hk⟩
              clear xs0 xsz0 xs1 xsz1 xs2 xsz2 xf0 xfz0 xf1 xfz1 xf2 xfz2 xf3 xfz3 xf4 xfz4 xl0 xlz0 xl1 xlz1 xl2 xlz2 xx0 xxz0 xx1 xxz1 xx2 xxz2 xx3 xxz3 xx4 xxz4 xx5 xxz5 xx6 xxz6 xx7 xxz7 xx8 xxz8
              replace hB := below_seq hB hk
              replace xs := xs.seq hk
              replace xf := xf.seq hk
              replace xl := xl.seq hk
              replace xx := xx.seq hk
              clear hk
              have xg := Box.new 26 V7 [.string g.b0, .string g.b1, .int .i64 g.e0, .int .i64 g.e1, .int .i64 g.lim]
              have ne_xg_xs : V7.heap.size ≠ W.heap.size := Nat.ne_of_gt xs.lt
              have ne_xg_xf : V7.heap.size ≠ V1.heap.size := Nat.ne_of_gt xf.lt
              have ne_xg_xl : V7.heap.size ≠ V2.heap.size := Nat.ne_of_gt xl.lt
              have ne_xg_xx : V7.heap.size ≠ V5.heap.size := Nat.ne_of_gt xx.lt
              have le_xg : W.heap.size ≤ V7.heap.size := hB.size
              replace xs := xs.alloc (.cells #[.string g.b0, .string g.b1, .int .i64 g.e0, .int .i64 g.e1, .int .i64 g.lim] 26)
              replace xf := xf.alloc (.cells #[.string g.b0, .string g.b1, .int .i64 g.e0, .int .i64 g.e1, .int .i64 g.lim] 26)
              replace xl := xl.alloc (.cells #[.string g.b0, .string g.b1, .int .i64 g.e0, .int .i64 g.e1, .int .i64 g.lim] 26)
              replace xx := xx.alloc (.cells #[.string g.b0, .string g.b1, .int .i64 g.e0, .int .i64 g.e1, .int .i64 g.lim] 26)
              replace hB := hB.alloc hB.size (.cells #[.string g.b0, .string g.b1, .int .i64 g.e0, .int .i64 g.e1, .int .i64 g.lim] 26)
              have xs0 := xs.cell 0 rfl
              have xsz0 := xs.frozen 0
              have xs1 := xs.cell 1 rfl
              have xsz1 := xs.frozen 1
              have xs2 := xs.cell 2 rfl
              have xsz2 := xs.frozen 2
              have xf0 := xf.cell 0 rfl
              have xfz0 := xf.frozen 0
              have xf1 := xf.cell 1 rfl
              have xfz1 := xf.frozen 1
              have xf2 := xf.cell 2 rfl
              have xfz2 := xf.frozen 2
              have xf3 := xf.cell 3 rfl
              have xfz3 := xf.frozen 3
              have xf4 := xf.cell 4 rfl
              have xfz4 := xf.frozen 4
              have xl0 := xl.cell 0 rfl
              have xlz0 := xl.frozen 0
              have xl1 := xl.cell 1 rfl
              have xlz1 := xl.frozen 1
              have xl2 := xl.cell 2 rfl
              have xlz2 := xl.frozen 2
              have xx0 := xx.cell 0 rfl
              have xxz0 := xx.frozen 0
              have xx1 := xx.cell 1 rfl
              have xxz1 := xx.frozen 1
              have xx2 := xx.cell 2 rfl
              have xxz2 := xx.frozen 2
              have xx3 := xx.cell 3 rfl
              have xxz3 := xx.frozen 3
              have xx4 := xx.cell 4 rfl
              have xxz4 := xx.frozen 4
              have xx5 := xx.cell 5 rfl
              have xxz5 := xx.frozen 5
              have xx6 := xx.cell 6 rfl
              have xxz6 := xx.frozen 6
              have xx7 := xx.cell 7 rfl
              have xxz7 := xx.frozen 7
              have xx8 := xx.cell 8 rfl
              have xxz8 := xx.frozen 8
              have xg0 := xg.cell 0 rfl
              have xgz0 := xg.frozen 0
              have xg1 := xg.cell 1 rfl
              have xgz1 := xg.frozen 1
              have xg2 := xg.cell 2 rfl
              have xgz2 := xg.frozen 2
              have xg3 := xg.cell 3 rfl
              have xgz3 := xg.frozen 3
              have xg4 := xg.cell 4 rfl
              have xgz4 := xg.frozen 4
              go_wp2_with fail
              refine (TSg.out _).mono ?_
              rintro e V8 ⟨rfl, hk⟩
              clear xs0 xsz0 xs1 xsz1 xs2 xsz2 xf0 xfz0 xf1 xfz1 xf2 xfz2 xf3 xfz3 xf4 xfz4 xl0 xlz0 xl1 xlz1 xl2 xlz2 xx0 xxz0 xx1 xxz1 xx2 xxz2 xx3 xxz3 xx4 xxz4 xx5 xxz5 xx6 xxz6 xx7 xxz7 xx8 xxz8 xg0 xgz0 xg1 xgz1 xg2 xgz2 xg3 xgz3 xg4 xgz4
              replace hB := below_seq hB hk
              replace xs := xs.seq hk
              replace xf := xf.seq hk
              replace xl := xl.seq hk
              replace xx := xx.seq hk
              replace xg := xg.seq hk
              clear hk
              have xs0 := xs.cell 0 rfl
              have xsz0 := xs.frozen 0
              have xs1 := xs.cell 1 rfl
              have xsz1 := xs.frozen 1
              have xs2 := xs.cell 2 rfl
              have xsz2 := xs.frozen 2
              have xf0 := xf.cell 0 rfl
              have xfz0 := xf.frozen 0
              have xf1 := xf.cell 1 rfl
              have xfz1 := xf.frozen 1
              have xf2 := xf.cell 2 rfl
              have xfz2 := xf.frozen 2
              have xf3 := xf.cell 3 rfl
              have xfz3 := xf.frozen 3
              have xf4 := xf.cell 4 rfl
              have xfz4 := xf.frozen 4
              have xl0 := xl.cell 0 rfl
              have xlz0 := xl.frozen 0
              have xl1 := xl.cell 1 rfl
              have xlz1 := xl.frozen 1
              have xl2 := xl.cell 2 rfl
              have xlz2 := xl.frozen 2
              have xx0 := xx.cell 0 rfl
              have xxz0 := xx.frozen 0
              have xx1 := xx.cell 1 rfl
              have xxz1 := xx.frozen 1
              have xx2 := xx.cell 2 rfl
              have xxz2 := xx.frozen 2
              have xx3 := xx.cell 3 rfl
              have xxz3 := xx.frozen 3
              have xx4 := xx.cell 4 rfl
              have xxz4 := xx.frozen 4
              have xx5 := xx.cell 5 rfl
              have xxz5 := xx.frozen 5
              have xx6 := xx.cell 6 rfl
              have xxz6 := xx.frozen 6
              have xx7 := xx.cell 7 rfl
              have xxz7 := xx.frozen 7
              have xx8 := xx.cell 8 rfl
              have xxz8 := xx.frozen 8
              have xg0 := xg.cell 0 rfl
              have xgz0 := xg.frozen 0
              have xg1 := xg.cell 1 rfl
              have xgz1 := xg.frozen 1
              have xg2 := xg.cell 2 rfl
              have xgz2 := xg.frozen 2
              have xg3 := xg.cell 3 rfl
              have xgz3 := xg.frozen 3
              have xg4 := xg.cell 4 rfl
              have xgz4 := xg.frozen 4
              go_wp2
              go_ret
              exact ⟨rfl, hB⟩
            · by_cases hv : v = s.data
              · subst hv
                have hB : Below W.heap.size W (W.alloc (.cells #[.int .u64 (s.data : Int), .int .i64 s.cut, .string s.mask] 36)) := ((Below.refl _ _).alloc (Nat.le_refl _) _)
                have xs := (Box.new 36 W [.int .u64 (s.data : Int), .int .i64 s.cut, .string s.mask])
                go_enter Try.func4, Try.ntmps4
                have xs0 := xs.cell 0 rfl
                have xsz0 := xs.frozen 0
                have xs1 := xs.cell 1 rfl
                have xsz1 := xs.frozen 1
                have xs2 := xs.cell 2 rfl
                have xsz2 := xs.frozen 2
                go_wp2_with fail
                refine (TZ.out _).mono ?_
                rintro e w' ⟨rfl, hw⟩
                rw [hw]
                clear hw w'
                go_wp2_with fail
                refine (TN.out _).mono ?_
                rintro e V1 ⟨rfl, hk⟩
                clear xs0 xsz0 xs1 xsz1 xs2 xsz2
                replace hB := below_seq hB hk
                replace xs := xs.seq hk
                clear hk
                have xf := Box.new 26 V1 [.string F.b0, .string F.b1, .int .i64 F.e0, .int .i64 F.e1, .int .i64 F.lim]
                have ne_xf_xs : V1.heap.size ≠ W.heap.size := Nat.ne_of_gt xs.lt
                have le_xf : W.heap.size ≤ V1.heap.size := hB.size
                replace xs := xs.alloc (.cells #[.string F.b0, .string F.b1, .int .i64 F.e0, .int .i64 F.e1, .int .i64 F.lim] 26)
                replace hB := hB.alloc hB.size (.cells #[.string F.b0, .string F.b1, .int .i64 F.e0, .int .i64 F.e1, .int .i64 F.lim] 26)
                have xs0 := xs.cell 0 rfl
                have xsz0 := xs.frozen 0
                have xs1 := xs.cell 1 rfl
                have xsz1 := xs.frozen 1
                have xs2 := xs.cell 2 rfl
                have xsz2 := xs.frozen 2
                have xf0 := xf.cell 0 rfl
                have xfz0 := xf.frozen 0
                have xf1 := xf.cell 1 rfl
                have xfz1 := xf.frozen 1
                have xf2 := xf.cell 2 rfl
                have xfz2 := xf.frozen 2
                have xf3 := xf.cell 3 rfl
                have xfz3 := xf.frozen 3
                have xf4 := xf.cell 4 rfl
                have xfz4 := xf.frozen 4
                go_wp2_with fail
                refine (TBg.out _ (hlh.out.seq hB)).mono ?_
                rintro e V2 ⟨rfl, hk⟩
                clear xs0 xsz0 xs1 xsz1 xs2 xsz2 xf0 xfz0 xf1 xfz1 xf2 xfz2 xf3 xfz3 xf4 xfz4
                replace hB := below_seq hB hk
                replace xs := xs.seq hk
                replace xf := xf.seq hk
                clear hk
                have xs0 := xs.cell 0 rfl
                have xsz0 := xs.frozen 0
                have xs1 := xs.cell 1 rfl
                have xsz1 := xs.frozen 1
                have xs2 := xs.cell 2 rfl
                have xsz2 := xs.frozen 2
                have xf0 := xf.cell 0 rfl
                have xfz0 := xf.frozen 0
                have xf1 := xf.cell 1 rfl
                have xfz1 := xf.frozen 1
                have xf2 := xf.cell 2 rfl
                have xfz2 := xf.frozen 2
                have xf3 := xf.cell 3 rfl
                have xfz3 := xf.frozen 3
                have xf4 := xf.cell 4 rfl
                have xfz4 := xf.frozen 4
                go_wp2_with fail
                clear xs0 xsz0 xs1 xsz1 xs2 xsz2 xf0 xfz0 xf1 xfz1 xf2 xfz2 xf3 xfz3 xf4 xfz4
                have xl := Box.new 36 V2 [.int .u64 (s.data : Int), .int .i64 s.cut, .string s.mask]
                have ne_xl_xs : V2.heap.size ≠ W.heap.size := Nat.ne_of_gt xs.lt
                have ne_xl_xf : V2.heap.size ≠ V1.heap.size := Nat.ne_of_gt xf.lt
                have le_xl : W.heap.size ≤ V2.heap.size := hB.size
                replace xs := xs.alloc (.cells #[.int .u64 (s.data : Int), .int .i64 s.cut, .string s.mask] 36)
                replace xf := xf.alloc (.cells #[.int .u64 (s.data : Int), .int .i64 s.cut, .string s.mask] 36)
                replace hB := hB.alloc hB.size (.cells #[.int .u64 (s.data : Int), .int .i64 s.cut, .string s.mask] 36)
                have xs0 := xs.cell 0 rfl
                have xsz0 := xs.frozen 0
                have xs1 := xs.cell 1 rfl
                have xsz1 := xs.frozen 1
                have xs2 := xs.cell 2 rfl
                have xsz2 := xs.frozen 2
                have xf0 := xf.cell 0 rfl
                have xfz0 := xf.frozen 0
                have xf1 := xf.cell 1 rfl
                have xfz1 := xf.frozen 1
                have xf2 := xf.cell 2 rfl
                have xfz2 := xf.frozen 2
                have xf3 := xf.cell 3 rfl
                have xfz3 := xf.frozen 3
                have xf4 := xf.cell 4 rfl
                have xfz4 := xf.frozen 4
                have xl0 := xl.cell 0 rfl
                have xlz0 := xl.frozen 0
                have xl1 := xl.cell 1 rfl
                have xlz1 := xl.frozen 1
                have xl2 := xl.cell 2 rfl
                have xlz2 := xl.frozen 2
                have h1 : RowsAt 3 stpV (V2.alloc (.cells #[.int .u64 (s.data : Int), .int .i64 s.cut, .string s.mask] 36)) (some ⟨V2.heap.size, 0, none⟩) [s] := RowsAt.lit (cv := stpV) (n := 3) (by decide) (fun _ => rfl) _ 36 [s]
                refine (TB2.out _ _ h1).mono ?_
                rintro e V3 ⟨rfl, hk⟩
                clear xs0 xsz0 xs1 xsz1 xs2 xsz2 xf0 xfz0 xf1 xfz1 xf2 xfz2 xf3 xfz3 xf4 xfz4 xl0 xlz0 xl1 xlz1 xl2 xlz2
                replace hB := below_seq hB hk
                replace xs := xs.seq hk
                replace xf := xf.seq hk
                replace xl := xl.seq hk
                clear hk
                have xs0 := xs.cell 0 rfl
                have xsz0 := xs.frozen 0
                have xs1 := xs.cell 1 rfl
                have xsz1 := xs.frozen 1
                have xs2 := xs.cell 2 rfl
                have xsz2 := xs.frozen 2
                have xf0 := xf.cell 0 rfl
                have xfz0 := xf.frozen 0
                have xf1 := xf.cell 1 rfl
                have xfz1 := xf.frozen 1
                have xf2 := xf.cell 2 rfl
                have xfz2 := xf.frozen 2
                have xf3 := xf.cell 3 rfl
                have xfz3 := xf.frozen 3
                have xf4 := xf.cell 4 rfl
                have xfz4 := xf.frozen 4
                have xl0 := xl.cell 0 rfl
                have xlz0 := xl.frozen 0
                have xl1 := xl.cell 1 rfl
                have xlz1 := xl.frozen 1
                have xl2 := xl.cell 2 rfl
                have xlz2 := xl.frozen 2
                clear h1
                go_wp2_with fail
                refine (shown12 _).mono ?_
                rintro e V4 ⟨rfl, hk⟩
                clear xs0 xsz0 xs1 xsz1 xs2 xsz2 xf0 xfz0 xf1 xfz1 xf2 xfz2 xf3 xfz3 xf4 xfz4 xl0 xlz0 xl1 xlz1 xl2 xlz2
                replace hB := below_seq hB hk
                replace xs := xs.seq hk
                replace xf := xf.seq hk
                replace xl := xl.seq hk
                clear hk
                have xs0 := xs.cell 0 rfl
                have xsz0 := xs.frozen 0
                have xs1 := xs.cell 1 rfl
                have xsz1 := xs.frozen 1
                have xs2 := xs.cell 2 rfl
                have xsz2 := xs.frozen 2
                have xf0 := xf.cell 0 rfl
                have xfz0 := xf.frozen 0
                have xf1 := xf.cell 1 rfl
                have xfz1 := xf.frozen 1
                have xf2 := xf.cell 2 rfl
                have xfz2 := xf.frozen 2
                have xf3 := xf.cell 3 rfl
                have xfz3 := xf.frozen 3
                have xf4 := xf.cell 4 rfl
                have xfz4 := xf.frozen 4
                have xl0 := xl.cell 0 rfl
                have xlz0 := xl.frozen 0
                have xl1 := xl.cell 1 rfl
                have xlz1 := xl.frozen 1
                have xl2 := xl.cell 2 rfl
                have xlz2 := xl.frozen 2
                go_wp2_with fail
                refine (TRu.out _ (hlh.out.seq hB)).mono ?_
                rintro e V5 ⟨rfl, hk⟩
                clear xs0 xsz0 xs1 xsz1 xs2 xsz2 xf0 xfz0 xf1 xfz1 xf2 xfz2 xf3 xfz3 xf4 xfz4 xl0 xlz0 xl1 xlz1 xl2 xlz2
                replace hB := below_seq hB hk
                replace xs := xs.seq hk
                replace xf := xf.seq hk
                replace xl := xl.seq hk
                clear hk
                have xx := Box.new 33 V5 [.string x.f.b0, .string x.f.b1, .int .i64 x.f.e0, .int .i64 x.f.e1, .int .i64 x.f.lim, .int .i64 x.acked, .int .u64 (x.last : Int), .bool x.flying, .int .u64 (x.flight : Int)]
                have ne_xx_xs : V5.heap.size ≠ W.heap.size := Nat.ne_of_gt xs.lt
                have ne_xx_xf : V5.heap.size ≠ V1.heap.size := Nat.ne_of_gt xf.lt
                have ne_xx_xl : V5.heap.size ≠ V2.heap.size := Nat.ne_of_gt xl.lt
                have le_xx : W.heap.size ≤ V5.heap.size := hB.size
                replace xs := xs.alloc (.cells #[.string x.f.b0, .string x.f.b1, .int .i64 x.f.e0, .int .i64 x.f.e1, .int .i64 x.f.lim, .int .i64 x.acked, .int .u64 (x.last : Int), .bool x.flying, .int .u64 (x.flight : Int)] 33)
                replace xf := xf.alloc (.cells #[.string x.f.b0, .string x.f.b1, .int .i64 x.f.e0, .int .i64 x.f.e1, .int .i64 x.f.lim, .int .i64 x.acked, .int .u64 (x.last : Int), .bool x.flying, .int .u64 (x.flight : Int)] 33)
                replace xl := xl.alloc (.cells #[.string x.f.b0, .string x.f.b1, .int .i64 x.f.e0, .int .i64 x.f.e1, .int .i64 x.f.lim, .int .i64 x.acked, .int .u64 (x.last : Int), .bool x.flying, .int .u64 (x.flight : Int)] 33)
                replace hB := hB.alloc hB.size (.cells #[.string x.f.b0, .string x.f.b1, .int .i64 x.f.e0, .int .i64 x.f.e1, .int .i64 x.f.lim, .int .i64 x.acked, .int .u64 (x.last : Int), .bool x.flying, .int .u64 (x.flight : Int)] 33)
                have xs0 := xs.cell 0 rfl
                have xsz0 := xs.frozen 0
                have xs1 := xs.cell 1 rfl
                have xsz1 := xs.frozen 1
                have xs2 := xs.cell 2 rfl
                have xsz2 := xs.frozen 2
                have xf0 := xf.cell 0 rfl
                have xfz0 := xf.frozen 0
                have xf1 := xf.cell 1 rfl
                have xfz1 := xf.frozen 1
                have xf2 := xf.cell 2 rfl
                have xfz2 := xf.frozen 2
                have xf3 := xf.cell 3 rfl
                have xfz3 := xf.frozen 3
                have xf4 := xf.cell 4 rfl
                have xfz4 := xf.frozen 4
                have xl0 := xl.cell 0 rfl
                have xlz0 := xl.frozen 0
                have xl1 := xl.cell 1 rfl
                have xlz1 := xl.frozen 1
                have xl2 := xl.cell 2 rfl
                have xlz2 := xl.frozen 2
                have xx0 := xx.cell 0 rfl
                have xxz0 := xx.frozen 0
                have xx1 := xx.cell 1 rfl
                have xxz1 := xx.frozen 1
                have xx2 := xx.cell 2 rfl
                have xxz2 := xx.frozen 2
                have xx3 := xx.cell 3 rfl
                have xxz3 := xx.frozen 3
                have xx4 := xx.cell 4 rfl
                have xxz4 := xx.frozen 4
                have xx5 := xx.cell 5 rfl
                have xxz5 := xx.frozen 5
                have xx6 := xx.cell 6 rfl
                have xxz6 := xx.frozen 6
                have xx7 := xx.cell 7 rfl
                have xxz7 := xx.frozen 7
                have xx8 := xx.cell 8 rfl
                have xxz8 := xx.frozen 8
                go_wp2_with fail
                refine (TSx.out _).mono ?_
                rintro e V6 ⟨rfl, hk⟩
                clear xs0 xsz0 xs1 xsz1 xs2 xsz2 xf0 xfz0 xf1 xfz1 xf2 xfz2 xf3 xfz3 xf4 xfz4 xl0 xlz0 xl1 xlz1 xl2 xlz2 xx0 xxz0 xx1 xxz1 xx2 xxz2 xx3 xxz3 xx4 xxz4 xx5 xxz5 xx6 xxz6 xx7 xxz7 xx8 xxz8
                replace hB := below_seq hB hk
                replace xs := xs.seq hk
                replace xf := xf.seq hk
                replace xl := xl.seq hk
                replace xx := xx.seq hk
                clear hk
                have xs0 := xs.cell 0 rfl
                have xsz0 := xs.frozen 0
                have xs1 := xs.cell 1 rfl
                have xsz1 := xs.frozen 1
                have xs2 := xs.cell 2 rfl
                have xsz2 := xs.frozen 2
                have xf0 := xf.cell 0 rfl
                have xfz0 := xf.frozen 0
                have xf1 := xf.cell 1 rfl
                have xfz1 := xf.frozen 1
                have xf2 := xf.cell 2 rfl
                have xfz2 := xf.frozen 2
                have xf3 := xf.cell 3 rfl
                have xfz3 := xf.frozen 3
                have xf4 := xf.cell 4 rfl
                have xfz4 := xf.frozen 4
                have xl0 := xl.cell 0 rfl
                have xlz0 := xl.frozen 0
                have xl1 := xl.cell 1 rfl
                have xlz1 := xl.frozen 1
                have xl2 := xl.cell 2 rfl
                have xlz2 := xl.frozen 2
                have xx0 := xx.cell 0 rfl
                have xxz0 := xx.frozen 0
                have xx1 := xx.cell 1 rfl
                have xxz1 := xx.frozen 1
                have xx2 := xx.cell 2 rfl
                have xxz2 := xx.frozen 2
                have xx3 := xx.cell 3 rfl
                have xxz3 := xx.frozen 3
                have xx4 := xx.cell 4 rfl
                have xxz4 := xx.frozen 4
                have xx5 := xx.cell 5 rfl
                have xxz5 := xx.frozen 5
                have xx6 := xx.cell 6 rfl
                have xxz6 := xx.frozen 6
                have xx7 := xx.cell 7 rfl
                have xxz7 := xx.frozen 7
                have xx8 := xx.cell 8 rfl
                have xxz8 := xx.frozen 8
                go_wp2_with fail
                refine (TPu.out _).mono ?_
                rintro e V7 ⟨rfl, hk⟩
                clear xs0 xsz0 xs1 xsz1 xs2 xsz2 xf0 xfz0 xf1 xfz1 xf2 xfz2 xf3 xfz3 xf4 xfz4 xl0 xlz0 xl1 xlz1 xl2 xlz2 xx0 xxz0 xx1 xxz1 xx2 xxz2 xx3 xxz3 xx4 xxz4 xx5 xxz5 xx6 xxz6 xx7 xxz7 xx8 xxz8
                replace hB := below_seq hB hk
                replace xs := xs.seq hk
                replace xf := xf.seq hk
                replace xl := xl.seq hk
                replace xx := xx.seq hk
                clear hk
                have xg := Box.new 26 V7 [.string g.b0, .string g.b1, .int .i64 g.e0, .int .i64 g.e1, .int .i64 g.lim]
                have ne_xg_xs : V7.heap.size ≠ W.heap.size := Nat.ne_of_gt xs.lt
                have ne_xg_xf : V7.heap.size ≠ V1.heap.size := Nat.ne_of_gt xf.lt
                have ne_xg_xl : V7.heap.size ≠ V2.heap.size := Nat.ne_of_gt xl.lt
                have ne_xg_xx : V7.heap.size ≠ V5.heap.size := Nat.ne_of_gt xx.lt
                have le_xg : W.heap.size ≤ V7.heap.size := hB.size
                replace xs := xs.alloc (.cells #[.string g.b0, .string g.b1, .int .i64 g.e0, .int .i64 g.e1, .int .i64 g.lim] 26)
                replace xf := xf.alloc (.cells #[.string g.b0, .string g.b1, .int .i64 g.e0, .int .i64 g.e1, .int .i64 g.lim] 26)
                replace xl := xl.alloc (.cells #[.string g.b0, .string g.b1, .int .i64 g.e0, .int .i64 g.e1, .int .i64 g.lim] 26)
                replace xx := xx.alloc (.cells #[.string g.b0, .string g.b1, .int .i64 g.e0, .int .i64 g.e1, .int .i64 g.lim] 26)
                replace hB := hB.alloc hB.size (.cells #[.string g.b0, .string g.b1, .int .i64 g.e0, .int .i64 g.e1, .int .i64 g.lim] 26)
                have xs0 := xs.cell 0 rfl
                have xsz0 := xs.frozen 0
                have xs1 := xs.cell 1 rfl
                have xsz1 := xs.frozen 1
                have xs2 := xs.cell 2 rfl
                have xsz2 := xs.frozen 2
                have xf0 := xf.cell 0 rfl
                have xfz0 := xf.frozen 0
                have xf1 := xf.cell 1 rfl
                have xfz1 := xf.frozen 1
                have xf2 := xf.cell 2 rfl
                have xfz2 := xf.frozen 2
                have xf3 := xf.cell 3 rfl
                have xfz3 := xf.frozen 3
                have xf4 := xf.cell 4 rfl
                have xfz4 := xf.frozen 4
                have xl0 := xl.cell 0 rfl
                have xlz0 := xl.frozen 0
                have xl1 := xl.cell 1 rfl
                have xlz1 := xl.frozen 1
                have xl2 := xl.cell 2 rfl
                have xlz2 := xl.frozen 2
                have xx0 := xx.cell 0 rfl
                have xxz0 := xx.frozen 0
                have xx1 := xx.cell 1 rfl
                have xxz1 := xx.frozen 1
                have xx2 := xx.cell 2 rfl
                have xxz2 := xx.frozen 2
                have xx3 := xx.cell 3 rfl
                have xxz3 := xx.frozen 3
                have xx4 := xx.cell 4 rfl
                have xxz4 := xx.frozen 4
                have xx5 := xx.cell 5 rfl
                have xxz5 := xx.frozen 5
                have xx6 := xx.cell 6 rfl
                have xxz6 := xx.frozen 6
                have xx7 := xx.cell 7 rfl
                have xxz7 := xx.frozen 7
                have xx8 := xx.cell 8 rfl
                have xxz8 := xx.frozen 8
                have xg0 := xg.cell 0 rfl
                have xgz0 := xg.frozen 0
                have xg1 := xg.cell 1 rfl
                have xgz1 := xg.frozen 1
                have xg2 := xg.cell 2 rfl
                have xgz2 := xg.frozen 2
                have xg3 := xg.cell 3 rfl
                have xgz3 := xg.frozen 3
                have xg4 := xg.cell 4 rfl
                have xgz4 := xg.frozen 4
                go_wp2_with fail
                refine (TSg.out _).mono ?_
                rintro e V8 ⟨rfl, hk⟩
                clear xs0 xsz0 xs1 xsz1 xs2 xsz2 xf0 xfz0 xf1 xfz1 xf2 xfz2 xf3 xfz3 xf4 xfz4 xl0 xlz0 xl1 xlz1 xl2 xlz2 xx0 xxz0 xx1 xxz1 xx2 xxz2 xx3 xxz3 xx4 xxz4 xx5 xxz5 xx6 xxz6 xx7 xxz7 xx8 xxz8 xg0 xgz0 xg1 xgz1 xg2 xgz2 xg3 xgz3 xg4 xgz4
                replace hB := below_seq hB hk
                replace xs := xs.seq hk
                replace xf := xf.seq hk
                replace xl := xl.seq hk
                replace xx := xx.seq hk
                replace xg := xg.seq hk
                clear hk
                have xs0 := xs.cell 0 rfl
                have xsz0 := xs.frozen 0
                have xs1 := xs.cell 1 rfl
                have xsz1 := xs.frozen 1
                have xs2 := xs.cell 2 rfl
                have xsz2 := xs.frozen 2
                have xf0 := xf.cell 0 rfl
                have xfz0 := xf.frozen 0
                have xf1 := xf.cell 1 rfl
                have xfz1 := xf.frozen 1
                have xf2 := xf.cell 2 rfl
                have xfz2 := xf.frozen 2
                have xf3 := xf.cell 3 rfl
                have xfz3 := xf.frozen 3
                have xf4 := xf.cell 4 rfl
                have xfz4 := xf.frozen 4
                have xl0 := xl.cell 0 rfl
                have xlz0 := xl.frozen 0
                have xl1 := xl.cell 1 rfl
                have xlz1 := xl.frozen 1
                have xl2 := xl.cell 2 rfl
                have xlz2 := xl.frozen 2
                have xx0 := xx.cell 0 rfl
                have xxz0 := xx.frozen 0
                have xx1 := xx.cell 1 rfl
                have xxz1 := xx.frozen 1
                have xx2 := xx.cell 2 rfl
                have xxz2 := xx.frozen 2
                have xx3 := xx.cell 3 rfl
                have xxz3 := xx.frozen 3
                have xx4 := xx.cell 4 rfl
                have xxz4 := xx.frozen 4
                have xx5 := xx.cell 5 rfl
                have xxz5 := xx.frozen 5
                have xx6 := xx.cell 6 rfl
                have xxz6 := xx.frozen 6
                have xx7 := xx.cell 7 rfl
                have xxz7 := xx.frozen 7
                have xx8 := xx.cell 8 rfl
                have xxz8 := xx.frozen 8
                have xg0 := xg.cell 0 rfl
                have xgz0 := xg.frozen 0
                have xg1 := xg.cell 1 rfl
                have xgz1 := xg.frozen 1
                have xg2 := xg.cell 2 rfl
                have xgz2 := xg.frozen 2
                have xg3 := xg.cell 3 rfl
                have xgz3 := xg.frozen 3
                have xg4 := xg.cell 4 rfl
                have xgz4 := xg.frozen 4
                go_wp2
                go_ret
                exact ⟨rfl, hB⟩
              · have m3 : ((v : Int) == (s.data : Int)) = false := beq_eq_false_iff_ne.2 (by omega)
                clear hv
                have hB : Below W.heap.size W (W.alloc (.cells #[.int .u64 (s.data : Int), .int .i64 s.cut, .string s.mask] 36)) := ((Below.refl _ _).alloc (Nat.le_refl _) _)
                have xs := (Box.new 36 W [.int .u64 (s.data : Int), .int .i64 s.cut, .string s.mask])
                go_enter Try.func4, Try.ntmps4
                have xs0 := xs.cell 0 rfl
                have xsz0 := xs.frozen 0
                have xs1 := xs.cell 1 rfl
                have xsz1 := xs.frozen 1
                have xs2 := xs.cell 2 rfl
                have xsz2 := xs.frozen 2
                go_wp2_with fail
                refine (TZ.out _).mono ?_
                rintro e w' ⟨rfl, hw⟩
                rw [hw]
                clear hw w'
                go_wp2_with fail
                refine (TN.out _).mono ?_
                rintro e V1 ⟨rfl, hk⟩
                clear xs0 xsz0 xs1 xsz1 xs2 xsz2
                replace hB := below_seq hB hk
                replace xs := xs.seq hk
                clear hk
                have xf := Box.new 26 V1 [.string F.b0, .string F.b1, .int .i64 F.e0, .int .i64 F.e1, .int .i64 F.lim]
                have ne_xf_xs : V1.heap.size ≠ W.heap.size := Nat.ne_of_gt xs.lt
                have le_xf : W.heap.size ≤ V1.heap.size := hB.size
                replace xs := xs.alloc (.cells #[.string F.b0, .string F.b1, .int .i64 F.e0, .int .i64 F.e1, .int .i64 F.lim] 26)
                replace hB := hB.alloc hB.size (.cells #[.string F.b0, .string F.b1, .int .i64 F.e0, .int .i64 F.e1, .int .i64 F.lim] 26)
                have xs0 := xs.cell 0 rfl
                have xsz0 := xs.frozen 0
                have xs1 := xs.cell 1 rfl
                have xsz1 := xs.frozen 1
                have xs2 := xs.cell 2 rfl
                have xsz2 := xs.frozen 2
                have xf0 := xf.cell 0 rfl
                have xfz0 := xf.frozen 0
                have xf1 := xf.cell 1 rfl
                have xfz1 := xf.frozen 1
                have xf2 := xf.cell 2 rfl
                have xfz2 := xf.frozen 2
                have xf3 := xf.cell 3 rfl
                have xfz3 := xf.frozen 3
                have xf4 := xf.cell 4 rfl
                have xfz4 := xf.frozen 4
                go_wp2_with fail
                refine (TBg.out _ (hlh.out.seq hB)).mono ?_
                rintro e V2 ⟨rfl, hk⟩
                clear xs0 xsz0 xs1 xsz1 xs2 xsz2 xf0 xfz0 xf1 xfz1 xf2 xfz2 xf3 xfz3 xf4 xfz4
                replace hB := below_seq hB hk
                replace xs := xs.seq hk
                replace xf := xf.seq hk
                clear hk
                have xs0 := xs.cell 0 rfl
                have xsz0 := xs.frozen 0
                have xs1 := xs.cell 1 rfl
                have xsz1 := xs.frozen 1
                have xs2 := xs.cell 2 rfl
                have xsz2 := xs.frozen 2
                have xf0 := xf.cell 0 rfl
                have xfz0 := xf.frozen 0
                have xf1 := xf.cell 1 rfl
                have xfz1 := xf.frozen 1
                have xf2 := xf.cell 2 rfl
                have xfz2 := xf.frozen 2
                have xf3 := xf.cell 3 rfl
                have xfz3 := xf.frozen 3
                have xf4 := xf.cell 4 rfl
                have xfz4 := xf.frozen 4
                go_wp2_with fail
                clear xs0 xsz0 xs1 xsz1 xs2 xsz2 xf0 xfz0 xf1 xfz1 xf2 xfz2 xf3 xfz3 xf4 xfz4
                have xl := Box.new 36 V2 [.int .u64 (s.data : Int), .int .i64 s.cut, .string s.mask]
                have ne_xl_xs : V2.heap.size ≠ W.heap.size := Nat.ne_of_gt xs.lt
                have ne_xl_xf : V2.heap.size ≠ V1.heap.size := Nat.ne_of_gt xf.lt
                have le_xl : W.heap.size ≤ V2.heap.size := hB.size
                replace xs := xs.alloc (.cells #[.int .u64 (s.data : Int), .int .i64 s.cut, .string s.mask] 36)
                replace xf := xf.alloc (.cells #[.int .u64 (s.data : Int), .int .i64 s.cut, .string s.mask] 36)
                replace hB := hB.alloc hB.size (.cells #[.int .u64 (s.data : Int), .int .i64 s.cut, .string s.mask] 36)
                have xs0 := xs.cell 0 rfl
                have xsz0 := xs.frozen 0
                have xs1 := xs.cell 1 rfl
                have xsz1 := xs.frozen 1
                have xs2 := xs.cell 2 rfl
                have xsz2 := xs.frozen 2
                have xf0 := xf.cell 0 rfl
                have xfz0 := xf.frozen 0
                have xf1 := xf.cell 1 rfl
                have xfz1 := xf.frozen 1
                have xf2 := xf.cell 2 rfl
                have xfz2 := xf.frozen 2
                have xf3 := xf.cell 3 rfl
                have xfz3 := xf.frozen 3
                have xf4 := xf.cell 4 rfl
                have xfz4 := xf.frozen 4
                have xl0 := xl.cell 0 rfl
                have xlz0 := xl.frozen 0
                have xl1 := xl.cell 1 rfl
                have xlz1 := xl.frozen 1
                have xl2 := xl.cell 2 rfl
                have xlz2 := xl.frozen 2
                have h1 : RowsAt 3 stpV (V2.alloc (.cells #[.int .u64 (s.data : Int), .int .i64 s.cut, .string s.mask] 36)) (some ⟨V2.heap.size, 0, none⟩) [s] := RowsAt.lit (cv := stpV) (n := 3) (by decide) (fun _ => rfl) _ 36 [s]
                refine (TB2.out _ _ h1).mono ?_
                rintro e V3 ⟨rfl, hk⟩
                clear xs0 xsz0 xs1 xsz1 xs2 xsz2 xf0 xfz0 xf1 xfz1 xf2 xfz2 xf3 xfz3 xf4 xfz4 xl0 xlz0 xl1 xlz1 xl2 xlz2
                replace hB := below_seq hB hk
                replace xs := xs.seq hk
                replace xf := xf.seq hk
                replace xl := xl.seq hk
                clear hk
                have xs0 := xs.cell 0 rfl
                have xsz0 := xs.frozen 0
                have xs1 := xs.cell 1 rfl
                have xsz1 := xs.frozen 1
                have xs2 := xs.cell 2 rfl
                have xsz2 := xs.frozen 2
                have xf0 := xf.cell 0 rfl
                have xfz0 := xf.frozen 0
                have xf1 := xf.cell 1 rfl
                have xfz1 := xf.frozen 1
                have xf2 := xf.cell 2 rfl
                have xfz2 := xf.frozen 2
                have xf3 := xf.cell 3 rfl
                have xfz3 := xf.frozen 3
                have xf4 := xf.cell 4 rfl
                have xfz4 := xf.frozen 4
                have xl0 := xl.cell 0 rfl
                have xlz0 := xl.frozen 0
                have xl1 := xl.cell 1 rfl
                have xlz1 := xl.frozen 1
                have xl2 := xl.cell 2 rfl
                have xlz2 := xl.frozen 2
                clear h1
                go_wp2_with fail
                refine (shown12 _).mono ?_
                rintro e V4 ⟨rfl, hk⟩
                clear xs0 xsz0 xs1 xsz1 xs2 xsz2 xf0 xfz0 xf1 xfz1 xf2 xfz2 xf3 xfz3 xf4 xfz4 xl0 xlz0 xl1 xlz1 xl2 xlz2
                replace hB := below_seq hB hk
                replace xs := xs.seq hk
                replace xf := xf.seq hk
                replace xl := xl.seq hk
                clear hk
                have xs0 := xs.cell 0 rfl
                have xsz0 := xs.frozen 0
                have xs1 := xs.cell 1 rfl
                have xsz1 := xs.frozen 1
                have xs2 := xs.cell 2 rfl
                have xsz2 := xs.frozen 2
                have xf0 := xf.cell 0 rfl
                have xfz0 := xf.frozen 0
                have xf1 := xf.cell 1 rfl
                have xfz1 := xf.frozen 1
                have xf2 := xf.cell 2 rfl
                have xfz2 := xf.frozen 2
                have xf3 := xf.cell 3 rfl
                have xfz3 := xf.frozen 3
                have xf4 := xf.cell 4 rfl
                have xfz4 := xf.frozen 4
                have xl0 := xl.cell 0 rfl
                have xlz0 := xl.frozen 0
                have xl1 := xl.cell 1 rfl
                have xlz1 := xl.frozen 1
                have xl2 := xl.cell 2 rfl
                have xlz2 := xl.frozen 2
                go_wp2_with fail
                refine (TRu.out _ (hlh.out.seq hB)).mono ?_
                rintro e V5 ⟨rfl, hk⟩
                clear xs0 xsz0 xs1 xsz1 xs2 xsz2 xf0 xfz0 xf1 xfz1 xf2 xfz2 xf3 xfz3 xf4 xfz4 xl0 xlz0 xl1 xlz1 xl2 xlz2
                replace hB := below_seq hB hk
                replace xs := xs.seq hk
                replace xf := xf.seq hk
                replace xl := xl.seq hk
                clear hk
                have xx := Box.new 33 V5 [.string x.f.b0, .string x.f.b1, .int .i64 x.f.e0, .int .i64 x.f.e1, .int .i64 x.f.lim, .int .i64 x.acked, .int .u64 (x.last : Int), .bool x.flying, .int .u64 (x.flight : Int)]
                have ne_xx_xs : V5.heap.size ≠ W.heap.size := Nat.ne_of_gt xs.lt
                have ne_xx_xf : V5.heap.size ≠ V1.heap.size := Nat.ne_of_gt xf.lt
                have ne_xx_xl : V5.heap.size ≠ V2.heap.size := Nat.ne_of_gt xl.lt
                have le_xx : W.heap.size ≤ V5.heap.size := hB.size
                replace xs := xs.alloc (.cells #[.string x.f.b0, .string x.f.b1, .int .i64 x.f.e0, .int .i64 x.f.e1, .int .i64 x.f.lim, .int .i64 x.acked, .int .u64 (x.last : Int), .bool x.flying, .int .u64 (x.flight : Int)] 33)
                replace xf := xf.alloc (.cells #[.string x.f.b0, .string x.f.b1, .int .i64 x.f.e0, .int .i64 x.f.e1, .int .i64 x.f.lim, .int .i64 x.acked, .int .u64 (x.last : Int), .bool x.flying, .int .u64 (x.flight : Int)] 33)
                replace xl := xl.alloc (.cells #[.string x.f.b0, .string x.f.b1, .int .i64 x.f.e0, .int .i64 x.f.e1, .int .i64 x.f.lim, .int .i64 x.acked, .int .u64 (x.last : Int), .bool x.flying, .int .u64 (x.flight : Int)] 33)
                replace hB := hB.alloc hB.size (.cells #[.string x.f.b0, .string x.f.b1, .int .i64 x.f.e0, .int .i64 x.f.e1, .int .i64 x.f.lim, .int .i64 x.acked, .int .u64 (x.last : Int), .bool x.flying, .int .u64 (x.flight : Int)] 33)
                have xs0 := xs.cell 0 rfl
                have xsz0 := xs.frozen 0
                have xs1 := xs.cell 1 rfl
                have xsz1 := xs.frozen 1
                have xs2 := xs.cell 2 rfl
                have xsz2 := xs.frozen 2
                have xf0 := xf.cell 0 rfl
                have xfz0 := xf.frozen 0
                have xf1 := xf.cell 1 rfl
                have xfz1 := xf.frozen 1
                have xf2 := xf.cell 2 rfl
                have xfz2 := xf.frozen 2
                have xf3 := xf.cell 3 rfl
                have xfz3 := xf.frozen 3
                have xf4 := xf.cell 4 rfl
                have xfz4 := xf.frozen 4
                have xl0 := xl.cell 0 rfl
                have xlz0 := xl.frozen 0
                have xl1 := xl.cell 1 rfl
                have xlz1 := xl.frozen 1
                have xl2 := xl.cell 2 rfl
                have xlz2 := xl.frozen 2
                have xx0 := xx.cell 0 rfl
                have xxz0 := xx.frozen 0
                have xx1 := xx.cell 1 rfl
                have xxz1 := xx.frozen 1
                have xx2 := xx.cell 2 rfl
                have xxz2 := xx.frozen 2
                have xx3 := xx.cell 3 rfl
                have xxz3 := xx.frozen 3
                have xx4 := xx.cell 4 rfl
                have xxz4 := xx.frozen 4
                have xx5 := xx.cell 5 rfl
                have xxz5 := xx.frozen 5
                have xx6 := xx.cell 6 rfl
                have xxz6 := xx.frozen 6
                have xx7 := xx.cell 7 rfl
                have xxz7 := xx.frozen 7
                have xx8 := xx.cell 8 rfl
                have xxz8 := xx.frozen 8
                go_wp2_with fail
                refine (TSx.out _).mono ?_
                rintro e V6 ⟨rfl, hk⟩
                clear xs0 xsz0 xs1 xsz1 xs2 xsz2 xf0 xfz0 xf1 xfz1 xf2 xfz2 xf3 xfz3 xf4 xfz4 xl0 xlz0 xl1 xlz1 xl2 xlz2 xx0 xxz0 xx1 xxz1 xx2 xxz2 xx3 xxz3 xx4 xxz4 xx5 xxz5 xx6 xxz6 xx7 xxz7 xx8 xxz8
                replace hB := below_seq hB hk
                replace xs := xs.seq hk
                replace xf := xf.seq hk
                replace xl := xl.seq hk
                replace xx := xx.seq hk
                clear hk
                have xs0 := xs.cell 0 rfl
                have xsz0 := xs.frozen 0
                have xs1 := xs.cell 1 rfl
                have xsz1 := xs.frozen 1
                have xs2 := xs.cell 2 rfl
                have xsz2 := xs.frozen 2
                have xf0 := xf.cell 0 rfl
                have xfz0 := xf.frozen 0
                have xf1 := xf.cell 1 rfl
                have xfz1 := xf.frozen 1
                have xf2 := xf.cell 2 rfl
                have xfz2 := xf.frozen 2
                have xf3 := xf.cell 3 rfl
                have xfz3 := xf.frozen 3
                have xf4 := xf.cell 4 rfl
                have xfz4 := xf.frozen 4
                have xl0 := xl.cell 0 rfl
                have xlz0 := xl.frozen 0
                have xl1 := xl.cell 1 rfl
                have xlz1 := xl.frozen 1
                have xl2 := xl.cell 2 rfl
                have xlz2 := xl.frozen 2
                have xx0 := xx.cell 0 rfl
                have xxz0 := xx.frozen 0
                have xx1 := xx.cell 1 rfl
                have xxz1 := xx.frozen 1
                have xx2 := xx.cell 2 rfl
                have xxz2 := xx.frozen 2
                have xx3 := xx.cell 3 rfl
                have xxz3 := xx.frozen 3
                have xx4 := xx.cell 4 rfl
                have xxz4 := xx.frozen 4
                have xx5 := xx.cell 5 rfl
                have xxz5 := xx.frozen 5
                have xx6 := xx.cell 6 rfl
                have xxz6 := xx.frozen 6
                have xx7 := xx.cell 7 rfl
                have xxz7 := xx.frozen 7
                have xx8 := xx.cell 8 rfl
                have xxz8 := xx.frozen 8
                go_wp2_with fail
                refine (TPu.out _).mono ?_
                rintro e V7 ⟨rfl, hk⟩
                clear xs0 xsz0 xs1 xsz1 xs2 xsz2 xf0 xfz0 xf1 xfz1 xf2 xfz2 xf3 xfz3 xf4 xfz4 xl0 xlz0 xl1 xlz1 xl2 xlz2 xx0 xxz0 xx1 xxz1 xx2 xxz2 xx3 xxz3 xx4 xxz4 xx5 xxz5 xx6 xxz6 xx7 xxz7 xx8 xxz8
                replace hB := below_seq hB hk
                replace xs := xs.seq hk
                replace xf := xf.seq hk
                replace xl := xl.seq hk
                replace xx := xx.seq hk
                clear hk
                have xg := Box.new 26 V7 [.string g.b0, .string g.b1, .int .i64 g.e0, .int .i64 g.e1, .int .i64 g.lim]
                have ne_xg_xs : V7.heap.size ≠ W.heap.size := Nat.ne_of_gt xs.lt
                have ne_xg_xf : V7.heap.size ≠ V1.heap.size := Nat.ne_of_gt xf.lt
                have ne_xg_xl : V7.heap.size ≠ V2.heap.size := Nat.ne_of_gt xl.lt
                have ne_xg_xx : V7.heap.size ≠ V5.heap.size := Nat.ne_of_gt xx.lt
                have le_xg : W.heap.size ≤ V7.heap.size := hB.size
                replace xs := xs.alloc (.cells #[.string g.b0, .string g.b1, .int .i64 g.e0, .int .i64 g.e1, .int .i64 g.lim] 26)
                replace xf := xf.alloc (.cells #[.string g.b0, .string g.b1, .int .i64 g.e0, .int .i64 g.e1, .int .i64 g.lim] 26)
                replace xl := xl.alloc (.cells #[.string g.b0, .string g.b1, .int .i64 g.e0, .int .i64 g.e1, .int .i64 g.lim] 26)
                replace xx := xx.alloc (.cells #[.string g.b0, .string g.b1, .int .i64 g.e0, .int .i64 g.e1, .int .i64 g.lim] 26)
                replace hB := hB.alloc hB.size (.cells #[.string g.b0, .string g.b1, .int .i64 g.e0, .int .i64 g.e1, .int .i64 g.lim] 26)
                have xs0 := xs.cell 0 rfl
                have xsz0 := xs.frozen 0
                have xs1 := xs.cell 1 rfl
                have xsz1 := xs.frozen 1
                have xs2 := xs.cell 2 rfl
                have xsz2 := xs.frozen 2
                have xf0 := xf.cell 0 rfl
                have xfz0 := xf.frozen 0
                have xf1 := xf.cell 1 rfl
                have xfz1 := xf.frozen 1
                have xf2 := xf.cell 2 rfl
                have xfz2 := xf.frozen 2
                have xf3 := xf.cell 3 rfl
                have xfz3 := xf.frozen 3
                have xf4 := xf.cell 4 rfl
                have xfz4 := xf.frozen 4
                have xl0 := xl.cell 0 rfl
                have xlz0 := xl.frozen 0
                have xl1 := xl.cell 1 rfl
                have xlz1 := xl.frozen 1
                have xl2 := xl.cell 2 rfl
                have xlz2 := xl.frozen 2
                have xx0 := xx.cell 0 rfl
                have xxz0 := xx.frozen 0
                have xx1 := xx.cell 1 rfl
                have xxz1 := xx.frozen 1
                have xx2 := xx.cell 2 rfl
                have xxz2 := xx.frozen 2
                have xx3 := xx.cell 3 rfl
                have xxz3 := xx.frozen 3
                have xx4 := xx.cell 4 rfl
                have xxz4 := xx.frozen 4
                have xx5 := xx.cell 5 rfl
                have xxz5 := xx.frozen 5
                have xx6 := xx.cell 6 rfl
                have xxz6 := xx.frozen 6
                have xx7 := xx.cell 7 rfl
                have xxz7 := xx.frozen 7
                have xx8 := xx.cell 8 rfl
                have xxz8 := xx.frozen 8
                have xg0 := xg.cell 0 rfl
                have xgz0 := xg.frozen 0
                have xg1 := xg.cell 1 rfl
                have xgz1 := xg.frozen 1
                have xg2 := xg.cell 2 rfl
                have xgz2 := xg.frozen 2
                have xg3 := xg.cell 3 rfl
                have xgz3 := xg.frozen 3
                have xg4 := xg.cell 4 rfl
                have xgz4 := xg.frozen 4
                go_wp2_with fail
                refine (TSg.out _).mono ?_
                rintro e V8 ⟨rfl, hk⟩
                clear xs0 xsz0 xs1 xsz1 xs2 xsz2 xf0 xfz0 xf1 xfz1 xf2 xfz2 xf3 xfz3 xf4 xfz4 xl0 xlz0 xl1 xlz1 xl2 xlz2 xx0 xxz0 xx1 xxz1 xx2 xxz2 xx3 xxz3 xx4 xxz4 xx5 xxz5 xx6 xxz6 xx7 xxz7 xx8 xxz8 xg0 xgz0 xg1 xgz1 xg2 xgz2 xg3 xgz3 xg4 xgz4
                replace hB := below_seq hB hk
                replace xs := xs.seq hk
                replace xf := xf.seq hk
                replace xl := xl.seq hk
                replace xx := xx.seq hk
                replace xg := xg.seq hk
                clear hk
                have xs0 := xs.cell 0 rfl
                have xsz0 := xs.frozen 0
                have xs1 := xs.cell 1 rfl
                have xsz1 := xs.frozen 1
                have xs2 := xs.cell 2 rfl
                have xsz2 := xs.frozen 2
                have xf0 := xf.cell 0 rfl
                have xfz0 := xf.frozen 0
                have xf1 := xf.cell 1 rfl
                have xfz1 := xf.frozen 1
                have xf2 := xf.cell 2 rfl
                have xfz2 := xf.frozen 2
                have xf3 := xf.cell 3 rfl
                have xfz3 := xf.frozen 3
                have xf4 := xf.cell 4 rfl
                have xfz4 := xf.frozen 4
                have xl0 := xl.cell 0 rfl
                have xlz0 := xl.frozen 0
                have xl1 := xl.cell 1 rfl
                have xlz1 := xl.frozen 1
                have xl2 := xl.cell 2 rfl
                have xlz2 := xl.frozen 2
                have xx0 := xx.cell 0 rfl
                have xxz0 := xx.frozen 0
                have xx1 := xx.cell 1 rfl
                have xxz1 := xx.frozen 1
                have xx2 := xx.cell 2 rfl
                have xxz2 := xx.frozen 2
                have xx3 := xx.cell 3 rfl
                have xxz3 := xx.frozen 3
                have xx4 := xx.cell 4 rfl
                have xxz4 := xx.frozen 4
                have xx5 := xx.cell 5 rfl
                have xxz5 := xx.frozen 5
                have xx6 := xx.cell 6 rfl
                have xxz6 := xx.frozen 6
                have xx7 := xx.cell 7 rfl
                have xxz7 := xx.frozen 7
                have xx8 := xx.cell 8 rfl
                have xxz8 := xx.frozen 8
                have xg0 := xg.cell 0 rfl
                have xgz0 := xg.frozen 0
                have xg1 := xg.cell 1 rfl
                have xgz1 := xg.frozen 1
                have xg2 := xg.cell 2 rfl
                have xgz2 := xg.frozen 2
                have xg3 := xg.cell 3 rfl
                have xgz3 := xg.frozen 3
                have xg4 := xg.cell 4 rfl
                have xgz4 := xg.frozen 4
                go_wp2
                go_ret
                exact ⟨rfl, hB⟩
          · rw [q1, q2] at TSg
            generalize (pickS x.f).data = v at *
            generalize decide (pickE x.f = 0) = b at *
            clear q1 q2 q3 hp hE p1 p2 hlen hgf HX HXl hxf hx p5 p4
            have hB : Below W.heap.size W (W.alloc (.cells #[.int .u64 (s.data : Int), .int .i64 s.cut, .string s.mask] 36)) := ((Below.refl _ _).alloc (Nat.le_refl _) _)
            have xs := (Box.new 36 W [.int .u64 (s.data : Int), .int .i64 s.cut, .string s.mask])
            go_enter Try.func4, Try.ntmps4
            have xs0 := xs.cell 0 rfl
            have xsz0 := xs.frozen 0
            have xs1 := xs.cell 1 rfl
            have xsz1 := xs.frozen 1
            have xs2 := xs.cell 2 rfl
            have xsz2 := xs.frozen 2
            go_wp2_with fail
            refine (TZ.out _).mono ?_
            rintro e w' ⟨rfl, hw⟩
            rw [hw]
            clear hw w'
            go_wp2_with fail
            refine (TN.out _).mono ?_
            rintro e V1 ⟨rfl, hk⟩
            clear xs0 xsz0 xs1 xsz1 xs2 xsz2
            replace hB := below_seq hB hk
            replace xs := xs.seq hk
            clear hk
            have xf := Box.new 26 V1 [.string F.b0, .string F.b1, .int .i64 F.e0, .int .i64 F.e1, .int .i64 F.lim]
            have ne_xf_xs : V1.heap.size ≠ W.heap.size := Nat.ne_of_gt xs.lt
            have le_xf : W.heap.size ≤ V1.heap.size := hB.size
            replace xs := xs.alloc (.cells #[.string F.b0, .string F.b1, .int .i64 F.e0, .int .i64 F.e1, .int .i64 F.lim] 26)
            replace hB := hB.alloc hB.size (.cells #[.string F.b0, .string F.b1, .int .i64 F.e0, .int .i64 F.e1, .int .i64 F.lim] 26)
            have xs0 := xs.cell 0 rfl
            have xsz0 := xs.frozen 0
            have xs1 := xs.cell 1 rfl
            have xsz1 := xs.frozen 1
            have xs2 := xs.cell 2 rfl
            have xsz2 := xs.frozen 2
            have xf0 := xf.cell 0 rfl
            have xfz0 := xf.frozen 0
            have xf1 := xf.cell 1 rfl
            have xfz1 := xf.frozen 1
            have xf2 := xf.cell 2 rfl
            have xfz2 := xf.frozen 2
            have xf3 := xf.cell 3 rfl
            have xfz3 := xf.frozen 3
            have xf4 := xf.cell 4 rfl
            have xfz4 := xf.frozen 4
            go_wp2_with fail
            refine (TBg.out _ (hlh.out.seq hB)).mono ?_
            rintro e V2 ⟨rfl, hk⟩
            clear xs0 xsz0 xs1 xsz1 xs2 xsz2 xf0 xfz0 xf1 xfz1 xf2 xfz2 xf3 xfz3 xf4 xfz4
            replace hB := below_seq hB hk
            replace xs := xs.seq hk
            replace xf := xf.seq hk
            clear hk
            have xs0 := xs.cell 0 rfl
            have xsz0 := xs.frozen 0
            have xs1 := xs.cell 1 rfl
            have xsz1 := xs.frozen 1
            have xs2 := xs.cell 2 rfl
            have xsz2 := xs.frozen 2
            have xf0 := xf.cell 0 rfl
            have xfz0 := xf.frozen 0
            have xf1 := xf.cell 1 rfl
            have xfz1 := xf.frozen 1
            have xf2 := xf.cell 2 rfl
            have xfz2 := xf.frozen 2
            have xf3 := xf.cell 3 rfl
            have xfz3 := xf.frozen 3
            have xf4 := xf.cell 4 rfl
            have xfz4 := xf.frozen 4
            go_wp2_with fail
            clear xs0 xsz0 xs1 xsz1 xs2 xsz2 xf0 xfz0 xf1 xfz1 xf2 xfz2 xf3 xfz3 xf4 xfz4
            have xl := Box.new 36 V2 [.int .u64 (s.data : Int), .int .i64 s.cut, .string s.mask]
            have ne_xl_xs : V2.heap.size ≠ W.heap.size := Nat.ne_of_gt xs.lt
            have ne_xl_xf : V2.heap.size ≠ V1.heap.size := Nat.ne_of_gt xf.lt
            have le_xl : W.heap.size ≤ V2.heap.size := hB.size
            replace xs := xs.alloc (.cells #[.int .u64 (s.data : Int), .int .i64 s.cut, .string s.mask] 36)
            replace xf := xf.alloc (.cells #[.int .u64 (s.data : Int), .int .i64 s.cut, .string s.mask] 36)
            replace hB := hB.alloc hB.size (.cells #[.int .u64 (s.data : Int), .int .i64 s.cut, .string s.mask] 36)
            have xs0 := xs.cell 0 rfl
            have xsz0 := xs.frozen 0
            have xs1 := xs.cell 1 rfl
            have xsz1 := xs.frozen 1
            have xs2 := xs.cell 2 rfl
            have xsz2 := xs.frozen 2
            have xf0 := xf.cell 0 rfl
            have xfz0 := xf.frozen 0
            have xf1 := xf.cell 1 rfl
            have xfz1 := xf.frozen 1
            have xf2 := xf.cell 2 rfl
            have xfz2 := xf.frozen 2
            have xf3 := xf.cell 3 rfl
            have xfz3 := xf.frozen 3
            have xf4 := xf.cell 4 rfl
            have xfz4 := xf.frozen 4
            have xl0 := xl.cell 0 rfl
            have xlz0 := xl.frozen 0
            have xl1 := xl.cell 1 rfl
            have xlz1 := xl.frozen 1
            have xl2 := xl.cell 2 rfl
            have xlz2 := xl.frozen 2
            have h1 : RowsAt 3 stpV (V2.alloc (.cells #[.int .u64 (s.data : Int), .int .i64 s.cut, .string s.mask] 36)) (some ⟨V2.heap.size, 0, none⟩) [s] := RowsAt.lit (cv := stpV) (n := 3) (by decide) (fun _ => rfl) _ 36 [s]
            refine (TB2.out _ _ h1).mono ?_
            rintro e V3 ⟨rfl, hk⟩
            clear xs0 xsz0 xs1 xsz1 xs2 xsz2 xf0 xfz0 xf1 xfz1 xf2 xfz2 xf3 xfz3 xf4 xfz4 xl0 xlz0 xl1 xlz1 xl2 xlz2
            replace hB := below_seq hB hk
            replace xs := xs.seq hk
            replace xf := xf.seq hk
            replace xl := xl.seq hk
            clear hk
            have xs0 := xs.cell 0 rfl
            have xsz0 := xs.frozen 0
            have xs1 := xs.cell 1 rfl
            have xsz1 := xs.frozen 1
            have xs2 := xs.cell 2 rfl
            have xsz2 := xs.frozen 2
            have xf0 := xf.cell 0 rfl
            have xfz0 := xf.frozen 0
            have xf1 := xf.cell 1 rfl
            have xfz1 := xf.frozen 1
            have xf2 := xf.cell 2 rfl
            have xfz2 := xf.frozen 2
            have xf3 := xf.cell 3 rfl
            have xfz3 := xf.frozen 3
            have xf4 := xf.cell 4 rfl
            have xfz4 := xf.frozen 4
            have xl0 := xl.cell 0 rfl
            have xlz0 := xl.frozen 0
            have xl1 := xl.cell 1 rfl
            have xlz1 := xl.frozen 1
            have xl2 := xl.cell 2 rfl
            have xlz2 := xl.frozen 2
            clear h1
            go_wp2_with fail
            refine (shown12 _).mono ?_
            rintro e V4 ⟨rfl, hk⟩
            clear xs0 xsz0 xs1 xsz1 xs2 xsz2 xf0 xfz0 xf1 xfz1 xf2 xfz2 xf3 xfz3 xf4 xfz4 xl0 xlz0 xl1 xlz1 xl2 xlz2
            replace hB := below_seq hB hk
            replace xs := xs.seq hk
            replace xf := xf.seq hk
            replace xl := xl.seq hk
            clear hk
            have xs0 := xs.cell 0 rfl
            have xsz0 := xs.frozen 0
            have xs1 := xs.cell 1 rfl
            have xsz1 := xs.frozen 1
            have xs2 := xs.cell 2 rfl
            have xsz2 := xs.frozen 2
            have xf0 := xf.cell 0 rfl
            have xfz0 := xf.frozen 0
            have xf1 := xf.cell 1 rfl
            have xfz1 := xf.frozen 1
            have xf2 := xf.cell 2 rfl
            have xfz2 := xf.frozen 2
            have xf3 := xf.cell 3 rfl
            have xfz3 := xf.frozen 3
            have xf4 := xf.cell 4 rfl
            have xfz4 := xf.frozen 4
            have xl0 := xl.cell 0 rfl
            have xlz0 := xl.frozen 0
            have xl1 := xl.cell 1 rfl
            have xlz1 := xl.frozen 1
            have xl2 := xl.cell 2 rfl
            have xlz2 := xl.frozen 2
            go_wp2_with fail
            refine (TRu.out _ (hlh.out.seq hB)).mono ?_
            rintro e V5 ⟨rfl, hk⟩
            clear xs0 xsz0 xs1 xsz1 xs2 xsz2 xf0 xfz0 xf1 xfz1 xf2 xfz2 xf3 xfz3 xf4 xfz4 xl0 xlz0 xl1 xlz1 xl2 xlz2
            replace hB := below_seq hB hk
            replace xs := xs.seq hk
            replace xf := xf.seq hk
            replace xl := xl.seq hk
            clear hk
            have xx := Box.new 33 V5 [.string x.f.b0, .string x.f.b1, .int .i64 x.f.e0, .int .i64 x.f.e1, .int .i64 x.f.lim, .int .i64 x.acked, .int .u64 (x.last : Int), .bool x.flying, .int .u64 (x.flight : Int)]
            have ne_xx_xs : V5.heap.size ≠ W.heap.size := Nat.ne_of_gt xs.lt
            have ne_xx_xf : V5.heap.size ≠ V1.heap.size := Nat.ne_of_gt xf.lt
            have ne_xx_xl : V5.heap.size ≠ V2.heap.size := Nat.ne_of_gt xl.lt
            have le_xx : W.heap.size ≤ V5.heap.size := hB.size
            replace xs := xs.alloc (.cells #[.string x.f.b0, .string x.f.b1, .int .i64 x.f.e0, .int .i64 x.f.e1, .int .i64 x.f.lim, .int .i64 x.acked, .int .u64 (x.last : Int), .bool x.flying, .int .u64 (x.flight : Int)] 33)
            replace xf := xf.alloc (.cells #[.string x.f.b0, .string x.f.b1, .int .i64 x.f.e0, .int .i64 x.f.e1, .int .i64 x.f.lim, .int .i64 x.acked, .int .u64 (x.last : Int), .bool x.flying, .int .u64 (x.flight : Int)] 33)
            replace xl := xl.alloc (.cells #[.string x.f.b0, .string x.f.b1, .int .i64 x.f.e0, .int .i64 x.f.e1, .int .i64 x.f.lim, .int .i64 x.acked, .int .u64 (x.last : Int), .bool x.flying, .int .u64 (x.flight : Int)] 33)
            replace hB := hB.alloc hB.size (.cells #[.string x.f.b0, .string x.f.b1, .int .i64 x.f.e0, .int .i64 x.f.e1, .int .i64 x.f.lim, .int .i64 x.acked, .int .u64 (x.last : Int), .bool x.flying, .int .u64 (x.flight : Int)] 33)
            have xs0 := xs.cell 0 rfl
            have xsz0 := xs.frozen 0
            have xs1 := xs.cell 1 rfl
            have xsz1 := xs.frozen 1
            have xs2 := xs.cell 2 rfl
            have xsz2 := xs.frozen 2
            have xf0 := xf.cell 0 rfl
            have xfz0 := xf.frozen 0
            have xf1 := xf.cell 1 rfl
            have xfz1 := xf.frozen 1
            have xf2 := xf.cell 2 rfl
            have xfz2 := xf.frozen 2
            have xf3 := xf.cell 3 rfl
            have xfz3 := xf.frozen 3
            have xf4 := xf.cell 4 rfl
            have xfz4 := xf.frozen 4
            have xl0 := xl.cell 0 rfl
            have xlz0 := xl.frozen 0
            have xl1 := xl.cell 1 rfl
            have xlz1 := xl.frozen 1
            have xl2 := xl.cell 2 rfl
            have xlz2 := xl.frozen 2
            have xx0 := xx.cell 0 rfl
            have xxz0 := xx.frozen 0
            have xx1 := xx.cell 1 rfl
            have xxz1 := xx.frozen 1
            have xx2 := xx.cell 2 rfl
            have xxz2 := xx.frozen 2
            have xx3 := xx.cell 3 rfl
            have xxz3 := xx.frozen 3
            have xx4 := xx.cell 4 rfl
            have xxz4 := xx.frozen 4
            have xx5 := xx.cell 5 rfl
            have xxz5 := xx.frozen 5
            have xx6 := xx.cell 6 rfl
            have xxz6 := xx.frozen 6
            have xx7 := xx.cell 7 rfl
            have xxz7 := xx.frozen 7
            have xx8 := xx.cell 8 rfl
            have xxz8 := xx.frozen 8
            go_wp2_with fail
            refine (TSx.out _).mono ?_
            rintro e V6 ⟨rfl, hk⟩
            clear xs0 xsz0 xs1 xsz1 xs2 xsz2 xf0 xfz0 xf1 xfz1 xf2 xfz2 xf3 xfz3 xf4 xfz4 xl0 xlz0 xl1 xlz1 xl2 xlz2 xx0 xxz0 xx1 xxz1 xx2 xxz2 xx3 xxz3 xx4 xxz4 xx5 xxz5 xx6 xxz6 xx7 xxz7 xx8 xxz8
            replace hB := below_seq hB hk
            replace xs := xs.seq hk
            replace xf := xf.seq hk
            replace xl := xl.seq hk
            replace xx := xx.seq hk
            clear hk
            have xs0 := xs.cell 0 rfl
            have xsz0 := xs.frozen 0
            have xs1 := xs.cell 1 rfl
            have xsz1 := xs.frozen 1
            have xs2 := xs.cell 2 rfl
            have xsz2 := xs.frozen 2
            have xf0 := xf.cell 0 rfl
            have xfz0 := xf.frozen 0
            have xf1 := xf.cell 1 rfl
            have xfz1 := xf.frozen 1
            have xf2 := xf.cell 2 rfl
            have xfz2 := xf.frozen 2
            have xf3 := xf.cell 3 rfl
            have xfz3 := xf.frozen 3
            have xf4 := xf.cell 4 rfl
            have xfz4 := xf.frozen 4
            have xl0 := xl.cell 0 rfl
            have xlz0 := xl.frozen 0
            have xl1 := xl.cell 1 rfl
            have xlz1 := xl.frozen 1
            have xl2 := xl.cell 2 rfl
            have xlz2 := xl.frozen 2
            have xx0 := xx.cell 0 rfl
            have xxz0 := xx.frozen 0
            have xx1 := xx.cell 1 rfl
            have xxz1 := xx.frozen 1
            have xx2 := xx.cell 2 rfl
            have xxz2 := xx.frozen 2
            have xx3 := xx.cell 3 rfl
            have xxz3 := xx.frozen 3
            have xx4 := xx.cell 4 rfl
            have xxz4 := xx.frozen 4
            have xx5 := xx.cell 5 rfl
            have xxz5 := xx.frozen 5
            have xx6 := xx.cell 6 rfl
            have xxz6 := xx.frozen 6
            have xx7 := xx.cell 7 rfl
            have xxz7 := xx.frozen 7
            have xx8 := xx.cell 8 rfl
            have xxz8 := xx.frozen 8
            go_wp2_with fail
            refine (TPu.out _).mono ?_
            rintro e V7 ⟨rfl, hk⟩
            clear xs0 xsz0 xs1 xsz1 xs2 xsz2 xf0 xfz0 xf1 xfz1 xf2 xfz2 xf3 xfz3 xf4 xfz4 xl0 xlz0 xl1 xlz1 xl2 xlz2 xx0 xxz0 xx1 xxz1 xx2 xxz2 xx3 xxz3 xx4 xxz4 xx5 xxz5 xx6 xxz6 xx7 xxz7 xx8 xxz8
            replace hB := below_seq hB hk
            replace xs := xs.seq hk
            replace xf := xf.seq hk
            replace xl := xl.seq hk
            replace xx := xx.seq hk
            clear hk
            have xg := Box.new 26 V7 [.string g.b0, .string g.b1, .int .i64 g.e0, .int .i64 g.e1, .int .i64 g.lim]
            have ne_xg_xs : V7.heap.size ≠ W.heap.size := Nat.ne_of_gt xs.lt
            have ne_xg_xf : V7.heap.size ≠ V1.heap.size := Nat.ne_of_gt xf.lt
            have ne_xg_xl : V7.heap.size ≠ V2.heap.size := Nat.ne_of_gt xl.lt
            have ne_xg_xx : V7.heap.size ≠ V5.heap.size := Nat.ne_of_gt xx.lt
            have le_xg : W.heap.size ≤ V7.heap.size := hB.size
            replace xs := xs.alloc (.cells #[.string g.b0, .string g.b1, .int .i64 g.e0, .int .i64 g.e1, .int .i64 g.lim] 26)
            replace xf := xf.alloc (.cells #[.string g.b0, .string g.b1, .int .i64 g.e0, .int .i64 g.e1, .int .i64 g.lim] 26)
            replace xl := xl.alloc (.cells #[.string g.b0, .string g.b1, .int .i64 g.e0, .int .i64 g.e1, .int .i64 g.lim] 26)
            replace xx := xx.alloc (.cells #[.string g.b0, .string g.b1, .int .i64 g.e0, .int .i64 g.e1, .int .i64 g.lim] 26)
            replace hB := hB.alloc hB.size (.cells #[.string g.b0, .string g.b1, .int .i64 g.e0, .int .i64 g.e1, .int .i64 g.lim] 26)
            have xs0 := xs.cell 0 rfl
            have xsz0 := xs.frozen 0
            have xs1 := xs.cell 1 rfl
            have xsz1 := xs.frozen 1
            have xs2 := xs.cell 2 rfl
            have xsz2 := xs.frozen 2
            have xf0 := xf.cell 0 rfl
            have xfz0 := xf.frozen 0
            have xf1 := xf.cell 1 rfl
            have xfz1 := xf.frozen 1
            have xf2 := xf.cell 2 rfl
            have xfz2 := xf.frozen 2
            have xf3 := xf.cell 3 rfl
            have xfz3 := xf.frozen 3
            have xf4 := xf.cell 4 rfl
            have xfz4 := xf.frozen 4
            have xl0 := xl.cell 0 rfl
            have xlz0 := xl.frozen 0
            have xl1 := xl.cell 1 rfl
            have xlz1 := xl.frozen 1
            have xl2 := xl.cell 2 rfl
            have xlz2 := xl.frozen 2
            have xx0 := xx.cell 0 rfl
            have xxz0 := xx.frozen 0
            have xx1 := xx.cell 1 rfl
            have xxz1 := xx.frozen 1
            have xx2 := xx.cell 2 rfl
            have xxz2 := xx.frozen 2
            have xx3 := xx.cell 3 rfl
            have xxz3 := xx.frozen 3
            have xx4 := xx.cell 4 rfl
            have xxz4 := xx.frozen 4
            have xx5 := xx.cell 5 rfl
            have xxz5 := xx.frozen 5
            have xx6 := xx.cell 6 rfl
            have xxz6 := xx.frozen 6
            have xx7 := xx.cell 7 rfl
            have xxz7 := xx.frozen 7
            have xx8 := xx.cell 8 rfl
            have xxz8 := xx.frozen 8
            have xg0 := xg.cell 0 rfl
            have xgz0 := xg.frozen 0
            have xg1 := xg.cell 1 rfl
            have xgz1 := xg.frozen 1
            have xg2 := xg.cell 2 rfl
            have xgz2 := xg.frozen 2
            have xg3 := xg.cell 3 rfl
            have xgz3 := xg.frozen 3
            have xg4 := xg.cell 4 rfl
            have xgz4 := xg.frozen 4
            go_wp2_with fail
            refine (TSg.out _).mono ?_
            rintro e V8 ⟨rfl, hk⟩
            clear xs0 xsz0 xs1 xsz1 xs2 xsz2 xf0 xfz0 xf1 xfz1 xf2 xfz2 xf3 xfz3 xf4 xfz4 xl0 xlz0 xl1 xlz1 xl2 xlz2 xx0 xxz0 xx1 xxz1 xx2 xxz2 xx3 xxz3 xx4 xxz4 xx5 xxz5 xx6 xxz6 xx7 xxz7 xx8 xxz8 xg0 xgz0 xg1 xgz1 xg2 xgz2 xg3 xgz3 xg4 xgz4
            replace hB := below_seq hB hk
            replace xs := xs.seq hk
            replace xf := xf.seq hk
            replace xl := xl.seq hk
            replace xx := xx.seq hk
            replace xg := xg.seq hk
            clear hk
            have xs0 := xs.cell 0 rfl
            have xsz0 := xs.frozen 0
            have xs1 := xs.cell 1 rfl
            have xsz1 := xs.frozen 1
            have xs2 := xs.cell 2 rfl
            have xsz2 := xs.frozen 2
            have xf0 := xf.cell 0 rfl
            have xfz0 := xf.frozen 0
            have xf1 := xf.cell 1 rfl
            have xfz1 := xf.frozen 1
            have xf2 := xf.cell 2 rfl
            have xfz2 := xf.frozen 2
            have xf3 := xf.cell 3 rfl
            have xfz3 := xf.frozen 3
            have xf4 := xf.cell 4 rfl
            have xfz4 := xf.frozen 4
            have xl0 := xl.cell 0 rfl
            have xlz0 := xl.frozen 0
            have xl1 := xl.cell 1 rfl
            have xlz1 := xl.frozen 1
            have xl2 := xl.cell 2 rfl
            have xlz2 := xl.frozen 2
            have xx0 := xx.cell 0 rfl
            have xxz0 := xx.frozen 0
            have xx1 := xx.cell 1 rfl
            have xxz1 := xx.frozen 1
            have xx2 := xx.cell 2 rfl
            have xxz2 := xx.frozen 2
            have xx3 := xx.cell 3 rfl
            have xxz3 := xx.frozen 3
            have xx4 := xx.cell 4 rfl
            have xxz4 := xx.frozen 4
            have xx5 := xx.cell 5 rfl
            have xxz5 := xx.frozen 5
            have xx6 := xx.cell 6 rfl
            have xxz6 := xx.frozen 6
            have xx7 := xx.cell 7 rfl
            have xxz7 := xx.frozen 7
            have xx8 := xx.cell 8 rfl
            have xxz8 := xx.frozen 8
            have xg0 := xg.cell 0 rfl
            have xgz0 := xg.frozen 0
            have xg1 := xg.cell 1 rfl
            have xgz1 := xg.frozen 1
            have xg2 := xg.cell 2 rfl
            have xgz2 := xg.frozen 2
            have xg3 := xg.cell 3 rfl
            have xgz3 := xg.frozen 3
            have xg4 := xg.cell 4 rfl
            have xgz4 := xg.frozen 4
            go_wp2
            go_ret
            exact ⟨rfl, hB⟩
        · have hak : ak = true := p5.2 (by omega)
          obtain ⟨q1, q2, q3⟩ := p4 hak
          subst hak
          rw [q1, q2] at TSg
          generalize (pickS x.f).data = v at *
          generalize decide (pickE x.f = 0) = b at *
          clear q1 q2 q3 hp hE p1 p2 hlen hgf HX HXl hxf hx p5 p4
          by_cases hc0 : s.cut < 0
          · clear hc
            have hB : Below W.heap.size W (W.alloc (.cells #[.int .u64 (s.data : Int), .int .i64 s.cut, .string s.mask] 36)) := ((Below.refl _ _).alloc (Nat.le_refl _) _)
            have xs := (Box.new 36 W [.int .u64 (s.data : Int), .int .i64 s.cut, .string s.mask])
            go_enter Try.func4, Try.ntmps4
            have xs0 := xs.cell 0 rfl
            have xsz0 := xs.frozen 0
            have xs1 := xs.cell 1 rfl
            have xsz1 := xs.frozen 1
            have xs2 := xs.cell 2 rfl
            have xsz2 := xs.frozen 2
            go_wp2_with fail
            refine (TZ.out _).mono ?_
            rintro e w' ⟨rfl, hw⟩
            rw [hw]
            clear hw w'
            go_wp2_with fail
            refine (TN.out _).mono ?_
            rintro e V1 ⟨rfl, hk⟩
            clear xs0 xsz0 xs1 xsz1 xs2 xsz2
            replace hB := below_seq hB hk
            replace xs := xs.seq hk
            clear hk
            have xf := Box.new 26 V1 [.string F.b0, .string F.b1, .int .i64 F.e0, .int .i64 F.e1, .int .i64 F.lim]
            have ne_xf_xs : V1.heap.size ≠ W.heap.size := Nat.ne_of_gt xs.lt
            have le_xf : W.heap.size ≤ V1.heap.size := hB.size
            replace xs := xs.alloc (.cells #[.string F.b0, .string F.b1, .int .i64 F.e0, .int .i64 F.e1, .int .i64 F.lim] 26)
            replace hB := hB.alloc hB.size (.cells #[.string F.b0, .string F.b1, .int .i64 F.e0, .int .i64 F.e1, .int .i64 F.lim] 26)
            have xs0 := xs.cell 0 rfl
            have xsz0 := xs.frozen 0
            have xs1 := xs.cell 1 rfl
            have xsz1 := xs.frozen 1
            have xs2 := xs.cell 2 rfl
            have xsz2 := xs.frozen 2
            have xf0 := xf.cell 0 rfl
            have xfz0 := xf.frozen 0
            have xf1 := xf.cell 1 rfl
            have xfz1 := xf.frozen 1
            have xf2 := xf.cell 2 rfl
            have xfz2 := xf.frozen 2
            have xf3 := xf.cell 3 rfl
            have xfz3 := xf.frozen 3
            have xf4 := xf.cell 4 rfl
            have xfz4 := xf.frozen 4
            go_wp2_with fail
            refine (TBg.out _ (hlh.out.seq hB)).mono ?_
            rintro e V2 ⟨rfl, hk⟩
            clear xs0 xsz0 xs1 xsz1 xs2 xsz2 xf0 xfz0 xf1 xfz1 xf2 xfz2 xf3 xfz3 xf4 xfz4
            replace hB := below_seq hB hk
            replace xs := xs.seq hk
            replace xf := xf.seq hk
            clear hk
            have xs0 := xs.cell 0 rfl
            have xsz0 := xs.frozen 0
            have xs1 := xs.cell 1 rfl
            have xsz1 := xs.frozen 1
            have xs2 := xs.cell 2 rfl
            have xsz2 := xs.frozen 2
            have xf0 := xf.cell 0 rfl
            have xfz0 := xf.frozen 0
            have xf1 := xf.cell 1 rfl
            have xfz1 := xf.frozen 1
            have xf2 := xf.cell 2 rfl
            have xfz2 := xf.frozen 2
            have xf3 := xf.cell 3 rfl
            have xfz3 := xf.frozen 3
            have xf4 := xf.cell 4 rfl
            have xfz4 := xf.frozen 4
            go_wp2_with fail
            clear xs0 xsz0 xs1 xsz1 xs2 xsz2 xf0 xfz0 xf1 xfz1 xf2 xfz2 xf3 xfz3 xf4 xfz4
            have xl := Box.new 36 V2 [.int .u64 (s.data : Int), .int .i64 s.cut, .string s.mask]
            have ne_xl_xs : V2.heap.size ≠ W.heap.size := Nat.ne_of_gt xs.lt
            have ne_xl_xf : V2.heap.size ≠ V1.heap.size := Nat.ne_of_gt xf.lt
            have le_xl : W.heap.size ≤ V2.heap.size := hB.size
            replace xs := xs.alloc (.cells #[.int .u64 (s.data : Int), .int .i64 s.cut, .string s.mask] 36)
            replace xf := xf.alloc (.cells #[.int .u64 (s.data : Int), .int .i64 s.cut, .string s.mask] 36)
            replace hB := hB.alloc hB.size (.cells #[.int .u64 (s.data : Int), .int .i64 s.cut, .string s.mask] 36)
            have xs0 := xs.cell 0 rfl
            have xsz0 := xs.frozen 0
            have xs1 := xs.cell 1 rfl
            have xsz1 := xs.frozen 1
            have xs2 := xs.cell 2 rfl
            have xsz2 := xs.frozen 2
            have xf0 := xf.cell 0 rfl
            have xfz0 := xf.frozen 0
            have xf1 := xf.cell 1 rfl
            have xfz1 := xf.frozen 1
            have xf2 := xf.cell 2 rfl
            have xfz2 := xf.frozen 2
            have xf3 := xf.cell 3 rfl
            have xfz3 := xf.frozen 3
            have xf4 := xf.cell 4 rfl
            have xfz4 := xf.frozen 4
            have xl0 := xl.cell 0 rfl
            have xlz0 := xl.frozen 0
            have xl1 := xl.cell 1 rfl
            have xlz1 := xl.frozen 1
            have xl2 := xl.cell 2 rfl
            have xlz2 := xl.frozen 2
            have h1 : RowsAt 3 stpV (V2.alloc (.cells #[.int .u64 (s.data : Int), .int .i64 s.cut, .string s.mask] 36)) (some ⟨V2.heap.size, 0, none⟩) [s] := RowsAt.lit (cv := stpV) (n := 3) (by decide) (fun _ => rfl) _ 36 [s]
            refine (TB2.out _ _ h1).mono ?_
            rintro e V3 ⟨rfl, hk⟩
            clear xs0 xsz0 xs1 xsz1 xs2 xsz2 xf0 xfz0 xf1 xfz1 xf2 xfz2 xf3 xfz3 xf4 xfz4 xl0 xlz0 xl1 xlz1 xl2 xlz2
            replace hB := below_seq hB hk
            replace xs := xs.seq hk
            replace xf := xf.seq hk
            replace xl := xl.seq hk
            clear hk
            have xs0 := xs.cell 0 rfl
            have xsz0 := xs.frozen 0
            have xs1 := xs.cell 1 rfl
            have xsz1 := xs.frozen 1
            have xs2 := xs.cell 2 rfl
            have xsz2 := xs.frozen 2
            have xf0 := xf.cell 0 rfl
            have xfz0 := xf.frozen 0
            have xf1 := xf.cell 1 rfl
            have xfz1 := xf.frozen 1
            have xf2 := xf.cell 2 rfl
            have xfz2 := xf.frozen 2
            have xf3 := xf.cell 3 rfl
            have xfz3 := xf.frozen 3
            have xf4 := xf.cell 4 rfl
            have xfz4 := xf.frozen 4
            have xl0 := xl.cell 0 rfl
            have xlz0 := xl.frozen 0
            have xl1 := xl.cell 1 rfl
            have xlz1 := xl.frozen 1
            have xl2 := xl.cell 2 rfl
            have xlz2 := xl.frozen 2
            clear h1
            go_wp2_with fail
            refine (shown12 _).mono ?_
            rintro e V4 ⟨rfl, hk⟩
            clear xs0 xsz0 xs1 xsz1 xs2 xsz2 xf0 xfz0 xf1 xfz1 xf2 xfz2 xf3 xfz3 xf4 xfz4 xl0 xlz0 xl1 xlz1 xl2 xlz2
            replace hB := below_seq hB hk
            replace xs := xs.seq hk
            replace xf := xf.seq hk
            replace xl := xl.seq hk
            clear hk
            have xs0 := xs.cell 0 rfl
            have xsz0 := xs.frozen 0
            have xs1 := xs.cell 1 rfl
            have xsz1 := xs.frozen 1
            have xs2 := xs.cell 2 rfl
            have xsz2 := xs.frozen 2
            have xf0 := xf.cell 0 rfl
            have xfz0 := xf.frozen 0
            have xf1 := xf.cell 1 rfl
            have xfz1 := xf.frozen 1
            have xf2 := xf.cell 2 rfl
            have xfz2 := xf.frozen 2
            have xf3 := xf.cell 3 rfl
            have xfz3 := xf.frozen 3
            have xf4 := xf.cell 4 rfl
            have xfz4 := xf.frozen 4
            have xl0 := xl.cell 0 rfl
            have xlz0 := xl.frozen 0
            have xl1 := xl.cell 1 rfl
            have xlz1 := xl.frozen 1
            have xl2 := xl.cell 2 rfl
            have xlz2 := xl.frozen 2
            go_wp2_with fail
            refine (TRu.out _ (hlh.out.seq hB)).mono ?_
            rintro e V5 ⟨rfl, hk⟩
            clear xs0 xsz0 xs1 xsz1 xs2 xsz2 xf0 xfz0 xf1 xfz1 xf2 xfz2 xf3 xfz3 xf4 xfz4 xl0 xlz0 xl1 xlz1 xl2 xlz2
            replace hB := below_seq hB hk
            replace xs := xs.seq hk
            replace xf := xf.seq hk
            replace xl := xl.seq hk
            clear hk
            have xx := Box.new 33 V5 [.string x.f.b0, .string x.f.b1, .int .i64 x.f.e0, .int .i64 x.f.e1, .int .i64 x.f.lim, .int .i64 x.acked, .int .u64 (x.last : Int), .bool x.flying, .int .u64 (x.flight : Int)]
            have ne_xx_xs : V5.heap.size ≠ W.heap.size := Nat.ne_of_gt xs.lt
            have ne_xx_xf : V5.heap.size ≠ V1.heap.size := Nat.ne_of_gt xf.lt
            have ne_xx_xl : V5.heap.size ≠ V2.heap.size := Nat.ne_of_gt xl.lt
            have le_xx : W.heap.size ≤ V5.heap.size := hB.size
            replace xs := xs.alloc (.cells #[.string x.f.b0, .string x.f.b1, .int .i64 x.f.e0, .int .i64 x.f.e1, .int .i64 x.f.lim, .int .i64 x.acked, .int .u64 (x.last : Int), .bool x.flying, .int .u64 (x.flight : Int)] 33)
            replace xf := xf.alloc (.cells #[.string x.f.b0, .string x.f.b1, .int .i64 x.f.e0, .int .i64 x.f.e1, .int .i64 x.f.lim, .int .i64 x.acked, .int .u64 (x.last : Int), .bool x.flying, .int .u64 (x.flight : Int)] 33)
            replace xl := xl.alloc (.cells #[.string x.f.b0, .string x.f.b1, .int .i64 x.f.e0, .int .i64 x.f.e1, .int .i64 x.f.lim, .int .i64 x.acked, .int .u64 (x.last : Int), .bool x.flying, .int .u64 (x.flight : Int)] 33)
            replace hB := hB.alloc hB.size (.cells #[.string x.f.b0, .string x.f.b1, .int .i64 x.f.e0, .int .i64 x.f.e1, .int .i64 x.f.lim, .int .i64 x.acked, .int .u64 (x.last : Int), .bool x.flying, .int .u64 (x.flight : Int)] 33)
            have xs0 := xs.cell 0 rfl
            have xsz0 := xs.frozen 0
            have xs1 := xs.cell 1 rfl
            have xsz1 := xs.frozen 1
            have xs2 := xs.cell 2 rfl
            have xsz2 := xs.frozen 2
            have xf0 := xf.cell 0 rfl
            have xfz0 := xf.frozen 0
            have xf1 := xf.cell 1 rfl
            have xfz1 := xf.frozen 1
            have xf2 := xf.cell 2 rfl
            have xfz2 := xf.frozen 2
            have xf3 := xf.cell 3 rfl
            have xfz3 := xf.frozen 3
            have xf4 := xf.cell 4 rfl
            have xfz4 := xf.frozen 4
            have xl0 := xl.cell 0 rfl
            have xlz0 := xl.frozen 0
            have xl1 := xl.cell 1 rfl
            have xlz1 := xl.frozen 1
            have xl2 := xl.cell 2 rfl
            have xlz2 := xl.frozen 2
            have xx0 := xx.cell 0 rfl
            have xxz0 := xx.frozen 0
            have xx1 := xx.cell 1 rfl
            have xxz1 := xx.frozen 1
            have xx2 := xx.cell 2 rfl
            have xxz2 := xx.frozen 2
            have xx3 := xx.cell 3 rfl
            have xxz3 := xx.frozen 3
            have xx4 := xx.cell 4 rfl
            have xxz4 := xx.frozen 4
            have xx5 := xx.cell 5 rfl
            have xxz5 := xx.frozen 5
            have xx6 := xx.cell 6 rfl
            have xxz6 := xx.frozen 6
            have xx7 := xx.cell 7 rfl
            have xxz7 := xx.frozen 7
            have xx8 := xx.cell 8 rfl
            have xxz8 := xx.frozen 8
            go_wp2_with fail
            refine (TSx.out _).mono ?_
            rintro e V6 ⟨rfl, hk⟩
            clear xs0 xsz0 xs1 xsz1 xs2 xsz2 xf0 xfz0 xf1 xfz1 xf2 xfz2 xf3 xfz3 xf4 xfz4 xl0 xlz0 xl1 xlz1 xl2 xlz2 xx0 xxz0 xx1 xxz1 xx2 xxz2 xx3 xxz3 xx4 xxz4 xx5 xxz5 xx6 xxz6 xx7 xxz7 xx8 xxz8
            replace hB := below_seq hB hk
            replace xs := xs.seq hk
            replace xf := xf.seq hk
            replace xl := xl.seq hk
            replace xx := xx.seq hk
            clear hk
            have xs0 := xs.cell 0 rfl
            have xsz0 := xs.frozen 0
            have xs1 := xs.cell 1 rfl
            have xsz1 := xs.frozen 1
            have xs2 := xs.cell 2 rfl
            have xsz2 := xs.frozen 2
            have xf0 := xf.cell 0 rfl
            have xfz0 := xf.frozen 0
            have xf1 := xf.cell 1 rfl
            have xfz1 := xf.frozen 1
            have xf2 := xf.cell 2 rfl
            have xfz2 := xf.frozen 2
            have xf3 := xf.cell 3 rfl
            have xfz3 := xf.frozen 3
            have xf4 := xf.cell 4 rfl
            have xfz4 := xf.frozen 4
            have xl0 := xl.cell 0 rfl
            have xlz0 := xl.frozen 0
            have xl1 := xl.cell 1 rfl
            have xlz1 := xl.frozen 1
            have xl2 := xl.cell 2 rfl
            have xlz2 := xl.frozen 2
            have xx0 := xx.cell 0 rfl
            have xxz0 := xx.frozen 0
            have xx1 := xx.cell 1 rfl
            have xxz1 := xx.frozen 1
            have xx2 := xx.cell 2 rfl
            have xxz2 := xx.frozen 2
            have xx3 := xx.cell 3 rfl
            have xxz3 := xx.frozen 3
            have xx4 := xx.cell 4 rfl
            have xxz4 := xx.frozen 4
            have xx5 := xx.cell 5 rfl
            have xxz5 := xx.frozen 5
            have xx6 := xx.cell 6 rfl
            have xxz6 := xx.frozen 6
            have xx7 := xx.cell 7 rfl
            have xxz7 := xx.frozen 7
            have xx8 := xx.cell 8 rfl
            have xxz8 := xx.frozen 8
            go_wp2_with fail
            refine (TPu.out _).mono ?_
            rintro e V7 ⟨rfl, hk⟩
            clear xs0 xsz0 xs1 xsz1 xs2 xsz2 xf0 xfz0 xf1 xfz1 xf2 xfz2 xf3 xfz3 xf4 xfz4 xl0 xlz0 xl1 xlz1 xl2 xlz2 xx0 xxz0 xx1 xxz1 xx2 xxz2 xx3 xxz3 xx4 xxz4 xx5 xxz5 xx6 xxz6 xx7 xxz7 xx8 xxz8
            replace hB := below_seq hB hk
            replace xs := xs.seq hk
            replace xf := xf.seq hk
            replace xl := xl.seq hk
            replace xx := xx.seq hk
            clear hk
            have xg := Box.new 26 V7 [.string g.b0, .string g.b1, .int .i64 g.e0, .int .i64 g.e1, .int .i64 g.lim]
            have ne_xg_xs : V7.heap.size ≠ W.heap.size := Nat.ne_of_gt xs.lt
            have ne_xg_xf : V7.heap.size ≠ V1.heap.size := Nat.ne_of_gt xf.lt
            have ne_xg_xl : V7.heap.size ≠ V2.heap.size := Nat.ne_of_gt xl.lt
            have ne_xg_xx : V7.heap.size ≠ V5.heap.size := Nat.ne_of_gt xx.lt
            have le_xg : W.heap.size ≤ V7.heap.size := hB.size
            replace xs := xs.alloc (.cells #[.string g.b0, .string g.b1, .int .i64 g.e0, .int .i64 g.e1, .int .i64 g.lim] 26)
            replace xf := xf.alloc (.cells #[.string g.b0, .string g.b1, .int .i64 g.e0, .int .i64 g.e1, .int .i64 g.lim] 26)
            replace xl := xl.alloc (.cells #[.string g.b0, .string g.b1, .int .i64 g.e0, .int .i64 g.e1, .int .i64 g.lim] 26)
            replace xx := xx.alloc (.cells #[.string g.b0, .string g.b1, .int .i64 g.e0, .int .i64 g.e1, .int .i64 g.lim] 26)
            replace hB := hB.alloc hB.size (.cells #[.string g.b0, .string g.b1, .int .i64 g.e0, .int .i64 g.e1, .int .i64 g.lim] 26)
            have xs0 := xs.cell 0 rfl
            have xsz0 := xs.frozen 0
            have xs1 := xs.cell 1 rfl
            have xsz1 := xs.frozen 1
            have xs2 := xs.cell 2 rfl
            have xsz2 := xs.frozen 2
            have xf0 := xf.cell 0 rfl
            have xfz0 := xf.frozen 0
            have xf1 := xf.cell 1 rfl
            have xfz1 := xf.frozen 1
            have xf2 := xf.cell 2 rfl
            have xfz2 := xf.frozen 2
            have xf3 := xf.cell 3 rfl
            have xfz3 := xf.frozen 3
            have xf4 := xf.cell 4 rfl
            have xfz4 := xf.frozen 4
            have xl0 := xl.cell 0 rfl
            have xlz0 := xl.frozen 0
            have xl1 := xl.cell 1 rfl
            have xlz1 := xl.frozen 1
            have xl2 := xl.cell 2 rfl
            have xlz2 := xl.frozen 2
            have xx0 := xx.cell 0 rfl
            have xxz0 := xx.frozen 0
            have xx1 := xx.cell 1 rfl
            have xxz1 := xx.frozen 1
            have xx2 := xx.cell 2 rfl
            have xxz2 := xx.frozen 2
            have xx3 := xx.cell 3 rfl
            have xxz3 := xx.frozen 3
            have xx4 := xx.cell 4 rfl
            have xxz4 := xx.frozen 4
            have xx5 := xx.cell 5 rfl
            have xxz5 := xx.frozen 5
            have xx6 := xx.cell 6 rfl
            have xxz6 := xx.frozen 6
            have xx7 := xx.cell 7 rfl
            have xxz7 := xx.frozen 7
            have xx8 := xx.cell 8 rfl
            have xxz8 := xx.frozen 8
            have xg0 := xg.cell 0 rfl
            have xgz0 := xg.frozen 0
            have xg1 := xg.cell 1 rfl
            have xgz1 := xg.frozen 1
            have xg2 := xg.cell 2 rfl
            have xgz2 := xg.frozen 2
            have xg3 := xg.cell 3 rfl
            have xgz3 := xg.frozen 3
            have xg4 := xg.cell 4 rfl
            have xgz4 := xg.frozen 4
            go_wp2_with fail
            refine (TSg.out _).mono ?_
            rintro e V8 ⟨rfl, hk⟩
            clear xs0 xsz0 xs1 xsz1 xs2 xsz2 xf0 xfz0 xf1 xfz1 xf2 xfz2 xf3 xfz3 xf4 xfz4 xl0 xlz0 xl1 xlz1 xl2 xlz2 xx0 xxz0 xx1 xxz1 xx2 xxz2 xx3 xxz3 xx4 xxz4 xx5 xxz5 xx6 xxz6 xx7 xxz7 xx8 xxz8 xg0 xgz0 xg1 xgz1 xg2 xgz2 xg3 xgz3 xg4 xgz4
            replace hB := below_seq hB hk
            replace xs := xs.seq hk
            replace xf := xf.seq hk
            replace xl := xl.seq hk
            replace xx := xx.seq hk
            replace xg := xg.seq hk
            clear hk
            have xs0 := xs.cell 0 rfl
            have xsz0 := xs.frozen 0
            have xs1 := xs.cell 1 rfl
            have xsz1 := xs.frozen 1
            have xs2 := xs.cell 2 rfl
            have xsz2 := xs.frozen 2
            have xf0 := xf.cell 0 rfl
            have xfz0 := xf.frozen 0
            have xf1 := xf.cell 1 rfl
            have xfz1 := xf.frozen 1
            have xf2 := xf.cell 2 rfl
            have xfz2 := xf.frozen 2
            have xf3 := xf.cell 3 rfl
            have xfz3 := xf.frozen 3
            have xf4 := xf.cell 4 rfl
            have xfz4 := xf.frozen 4
            have xl0 := xl.cell 0 rfl
            have xlz0 := xl.frozen 0
            have xl1 := xl.cell 1 rfl
            have xlz1 := xl.frozen 1
            have xl2 := xl.cell 2 rfl
            have xlz2 := xl.frozen 2
            have xx0 := xx.cell 0 rfl
            have xxz0 := xx.frozen 0
            have xx1 := xx.cell 1 rfl
            have xxz1 := xx.frozen 1
            have xx2 := xx.cell 2 rfl
            have xxz2 := xx.frozen 2
            have xx3 := xx.cell 3 rfl
            have xxz3 := xx.frozen 3
            have xx4 := xx.cell 4 rfl
            have xxz4 := xx.frozen 4
            have xx5 := xx.cell 5 rfl
            have xxz5 := xx.frozen 5
            have xx6 := xx.cell 6 rfl
            have xxz6 := xx.frozen 6
            have xx7 := xx.cell 7 rfl
            have xxz7 := xx.frozen 7
            have xx8 := xx.cell 8 rfl
            have xxz8 := xx.frozen 8
            have xg0 := xg.cell 0 rfl
            have xgz0 := xg.frozen 0
            have xg1 := xg.cell 1 rfl
            have xgz1 := xg.frozen 1
            have xg2 := xg.cell 2 rfl
            have xgz2 := xg.frozen 2
            have xg3 := xg.cell 3 rfl
            have xgz3 := xg.frozen 3
            have xg4 := xg.cell 4 rfl
            have xgz4 := xg.frozen 4
            go_wp2
            go_ret
            exact ⟨rfl, hB⟩
          · have m2 : s.cut > 5 := by omega
            clear hc
            have hB : Below W.heap.size W (W.alloc (.cells #[.int .u64 (s.data : Int), .int .i64 s.cut, .string s.mask] 36)) := ((Below.refl _ _).alloc (Nat.le_refl _) _)
            have xs := (Box.new 36 W [.int .u64 (s.data : Int), .int .i64 s.cut, .string s.mask])
            go_enter Try.func4, Try.ntmps4
            have xs0 := xs.cell 0 rfl
            have xsz0 := xs.frozen 0
            have xs1 := xs.cell 1 rfl
            have xsz1 := xs.frozen 1
            have xs2 := xs.cell 2 rfl
            have xsz2 := xs.frozen 2
            go_wp2_with fail
            refine (TZ.out _).mono ?_
            rintro e w' ⟨rfl, hw⟩
            rw [hw]
            clear hw w'
            go_wp2_with fail
            refine (TN.out _).mono ?_
            rintro e V1 ⟨rfl, hk⟩
            clear xs0 xsz0 xs1 xsz1 xs2 xsz2
            replace hB := below_seq hB hk
            replace xs := xs.seq hk
            clear hk
            have xf := Box.new 26 V1 [.string F.b0, .string F.b1, .int .i64 F.e0, .int .i64 F.e1, .int .i64 F.lim]
            have ne_xf_xs : V1.heap.size ≠ W.heap.size := Nat.ne_of_gt xs.lt
            have le_xf : W.heap.size ≤ V1.heap.size := hB.size
            replace xs := xs.alloc (.cells #[.string F.b0, .string F.b1, .int .i64 F.e0, .int .i64 F.e1, .int .i64 F.lim] 26)
            replace hB := hB.alloc hB.size (.cells #[.string F.b0, .string F.b1, .int .i64 F.e0, .int .i64 F.e1, .int .i64 F.lim] 26)
            have xs0 := xs.cell 0 rfl
            have xsz0 := xs.frozen 0
            have xs1 := xs.cell 1 rfl
            have xsz1 := xs.frozen 1
            have xs2 := xs.cell 2 rfl
            have xsz2 := xs.frozen 2
            have xf0 := xf.cell 0 rfl
            have xfz0 := xf.frozen 0
            have xf1 := xf.cell 1 rfl
            have xfz1 := xf.frozen 1
            have xf2 := xf.cell 2 rfl
            have xfz2 := xf.frozen 2
            have xf3 := xf.cell 3 rfl
            have xfz3 := xf.frozen 3
            have xf4 := xf.cell 4 rfl
            have xfz4 := xf.frozen 4
            go_wp2_with fail
            refine (TBg.out _ (hlh.out.seq hB)).mono ?_
            rintro e V2 ⟨rfl, hk⟩
            clear xs0 xsz0 xs1 xsz1 xs2 xsz2 xf0 xfz0 xf1 xfz1 xf2 xfz2 xf3 xfz3 xf4 xfz4
            replace hB := below_seq hB hk
            replace xs := xs.seq hk
            replace xf := xf.seq hk
            clear hk
            have xs0 := xs.cell 0 rfl
            have xsz0 := xs.frozen 0
            have xs1 := xs.cell 1 rfl
            have xsz1 := xs.frozen 1
            have xs2 := xs.cell 2 rfl
            have xsz2 := xs.frozen 2
            have xf0 := xf.cell 0 rfl
            have xfz0 := xf.frozen 0
            have xf1 := xf.cell 1 rfl
            have xfz1 := xf.frozen 1
            have xf2 := xf.cell 2 rfl
            have xfz2 := xf.frozen 2
            have xf3 := xf.cell 3 rfl
            have xfz3 := xf.frozen 3
            have xf4 := xf.cell 4 rfl
            have xfz4 := xf.frozen 4
            go_wp2_with fail
            clear xs0 xsz0 xs1 xsz1 xs2 xsz2 xf0 xfz0 xf1 xfz1 xf2 xfz2 xf3 xfz3 xf4 xfz4
            have xl := Box.new 36 V2 [.int .u64 (s.data : Int), .int .i64 s.cut, .string s.mask]
            have ne_xl_xs : V2.heap.size ≠ W.heap.size := Nat.ne_of_gt xs.lt
            have ne_xl_xf : V2.heap.size ≠ V1.heap.size := Nat.ne_of_gt xf.lt
            have le_xl : W.heap.size ≤ V2.heap.size := hB.size
            replace xs := xs.alloc (.cells #[.int .u64 (s.data : Int), .int .i64 s.cut, .string s.mask] 36)
            replace xf := xf.alloc (.cells #[.int .u64 (s.data : Int), .int .i64 s.cut, .string s.mask] 36)
            replace hB := hB.alloc hB.size (.cells #[.int .u64 (s.data : Int), .int .i64 s.cut, .string s.mask] 36)
            have xs0 := xs.cell 0 rfl
            have xsz0 := xs.frozen 0
            have xs1 := xs.cell 1 rfl
            have xsz1 := xs.frozen 1
            have xs2 := xs.cell 2 rfl
            have xsz2 := xs.frozen 2
            have xf0 := xf.cell 0 rfl
            have xfz0 := xf.frozen 0
            have xf1 := xf.cell 1 rfl
            have xfz1 := xf.frozen 1
            have xf2 := xf.cell 2 rfl
            have xfz2 := xf.frozen 2
            have xf3 := xf.cell 3 rfl
            have xfz3 := xf.frozen 3
            have xf4 := xf.cell 4 rfl
            have xfz4 := xf.frozen 4
            have xl0 := xl.cell 0 rfl
            have xlz0 := xl.frozen 0
            have xl1 := xl.cell 1 rfl
            have xlz1 := xl.frozen 1
            have xl2 := xl.cell 2 rfl
            have xlz2 := xl.frozen 2
            have h1 : RowsAt 3 stpV (V2.alloc (.cells #[.int .u64 (s.data : Int), .int .i64 s.cut, .string s.mask] 36)) (some ⟨V2.heap.size, 0, none⟩) [s] := RowsAt.lit (cv := stpV) (n := 3) (by decide) (fun _ => rfl) _ 36 [s]
            refine (TB2.out _ _ h1).mono ?_
            rintro e V3 ⟨rfl, hk⟩
            clear xs0 xsz0 xs1 xsz1 xs2 xsz2 xf0 xfz0 xf1 xfz1 xf2 xfz2 xf3 xfz3 xf4 xfz4 xl0 xlz0 xl1 xlz1 xl2 xlz2
            replace hB := below_seq hB hk
            replace xs := xs.seq hk
            replace xf := xf.seq hk
            replace xl := xl.seq hk
            clear hk
            have xs0 := xs.cell 0 rfl
            have xsz0 := xs.frozen 0
            have xs1 := xs.cell 1 rfl
            have xsz1 := xs.frozen 1
            have xs2 := xs.cell 2 rfl
            have xsz2 := xs.frozen 2
            have xf0 := xf.cell 0 rfl
            have xfz0 := xf.frozen 0
            have xf1 := xf.cell 1 rfl
            have xfz1 := xf.frozen 1
            have xf2 := xf.cell 2 rfl
            have xfz2 := xf.frozen 2
            have xf3 := xf.cell 3 rfl
            have xfz3 := xf.frozen 3
            have xf4 := xf.cell 4 rfl
            have xfz4 := xf.frozen 4
            have xl0 := xl.cell 0 rfl
            have xlz0 := xl.frozen 0
            have xl1 := xl.cell 1 rfl
            have xlz1 := xl.frozen 1
            have xl2 := xl.cell 2 rfl
            have xlz2 := xl.frozen 2
            clear h1
            go_wp2_with fail
            refine (shown12 _).mono ?_
            rintro e V4 ⟨rfl, hk⟩
            clear xs0 xsz0 xs1 xsz1 xs2 xsz2 xf0 xfz0 xf1 xfz1 xf2 xfz2 xf3 xfz3 xf4 xfz4 xl0 xlz0 xl1 xlz1 xl2 xlz2
            replace hB := below_seq hB hk
            replace xs := xs.seq hk
            replace xf := xf.seq hk
            replace xl := xl.seq hk
            clear hk
            have xs0 := xs.cell 0 rfl
            have xsz0 := xs.frozen 0
            have xs1 := xs.cell 1 rfl
            have xsz1 := xs.frozen 1
            have xs2 := xs.cell 2 rfl
            have xsz2 := xs.frozen 2
            have xf0 := xf.cell 0 rfl
            have xfz0 := xf.frozen 0
            have xf1 := xf.cell 1 rfl
            have xfz1 := xf.frozen 1
            have xf2 := xf.cell 2 rfl
            have xfz2 := xf.frozen 2
            have xf3 := xf.cell 3 rfl
            have xfz3 := xf.frozen 3
            have xf4 := xf.cell 4 rfl
            have xfz4 := xf.frozen 4
            have xl0 := xl.cell 0 rfl
            have xlz0 := xl.frozen 0
            have xl1 := xl.cell 1 rfl
            have xlz1 := xl.frozen 1
            have xl2 := xl.cell 2 rfl
            have xlz2 := xl.frozen 2
            go_wp2_with fail
            refine (TRu.out _ (hlh.out.seq hB)).mono ?_
            rintro e V5 ⟨rfl, hk⟩
            clear xs0 xsz0 xs1 xsz1 xs2 xsz2 xf0 xfz0 xf1 xfz1 xf2 xfz2 xf3 xfz3 xf4 xfz4 xl0 xlz0 xl1 xlz1 xl2 xlz2
            replace hB := below_seq hB hk
            replace xs := xs.seq hk
            replace xf := xf.seq hk
            replace xl := xl.seq hk
            clear hk
            have xx := Box.new 33 V5 [.string x.f.b0, .string x.f.b1, .int .i64 x.f.e0, .int .i64 x.f.e1, .int .i64 x.f.lim, .int .i64 x.acked, .int .u64 (x.last : Int), .bool x.flying, .int .u64 (x.flight : Int)]
            have ne_xx_xs : V5.heap.size ≠ W.heap.size := Nat.ne_of_gt xs.lt
            have ne_xx_xf : V5.heap.size ≠ V1.heap.size := Nat.ne_of_gt xf.lt
            have ne_xx_xl : V5.heap.size ≠ V2.heap.size := Nat.ne_of_gt xl.lt
            have le_xx : W.heap.size ≤ V5.heap.size := hB.size
            replace xs := xs.alloc (.cells #[.string x.f.b0, .string x.f.b1, .int .i64 x.f.e0, .int .i64 x.f.e1, .int .i64 x.f.lim, .int .i64 x.acked, .int .u64 (x.last : Int), .bool x.flying, .int .u64 (x.flight : Int)] 33)
            replace xf := xf.alloc (.cells #[.string x.f.b0, .string x.f.b1, .int .i64 x.f.e0, .int .i64 x.f.e1, .int .i64 x.f.lim, .int .i64 x.acked, .int .u64 (x.last : Int), .bool x.flying, .int .u64 (x.flight : Int)] 33)
            replace xl := xl.alloc (.cells #[.string x.f.b0, .string x.f.b1, .int .i64 x.f.e0, .int .i64 x.f.e1, .int .i64 x.f.lim, .int .i64 x.acked, .int .u64 (x.last : Int), .bool x.flying, .int .u64 (x.flight : Int)] 33)
            replace hB := hB.alloc hB.size (.cells #[.string x.f.b0, .string x.f.b1, .int .i64 x.f.e0, .int .i64 x.f.e1, .int .i64 x.f.lim, .int .i64 x.acked, .int .u64 (x.last : Int), .bool x.flying, .int .u64 (x.flight : Int)] 33)
            have xs0 := xs.cell 0 rfl
            have xsz0 := xs.frozen 0
            have xs1 := xs.cell 1 rfl
            have xsz1 := xs.frozen 1
            have xs2 := xs.cell 2 rfl
            have xsz2 := xs.frozen 2
            have xf0 := xf.cell 0 rfl
            have xfz0 := xf.frozen 0
            have xf1 := xf.cell 1 rfl
            have xfz1 := xf.frozen 1
            have xf2 := xf.cell 2 rfl
            have xfz2 := xf.frozen 2
            have xf3 := xf.cell 3 rfl
            have xfz3 := xf.frozen 3
            have xf4 := xf.cell 4 rfl
            have xfz4 := xf.frozen 4
            have xl0 := xl.cell 0 rfl
            have xlz0 := xl.frozen 0
            have xl1 := xl.cell 1 rfl
            have xlz1 := xl.frozen 1
            have xl2 := xl.cell 2 rfl
            have xlz2 := xl.frozen 2
            have xx0 := xx.cell 0 rfl
            have xxz0 := xx.frozen 0
            have xx1 := xx.cell 1 rfl
            have xxz1 := xx.frozen 1
            have xx2 := xx.cell 2 rfl
            have xxz2 := xx.frozen 2
            have xx3 := xx.cell 3 rfl
            have xxz3 := xx.frozen 3
            have xx4 := xx.cell 4 rfl
            have xxz4 := xx.frozen 4
            have xx5 := xx.cell 5 rfl
            have xxz5 := xx.frozen 5
            have xx6 := xx.cell 6 rfl
            have xxz6 := xx.frozen 6
            have xx7 := xx.cell 7 rfl
            have xxz7 := xx.frozen 7
            have xx8 := xx.cell 8 rfl
            have xxz8 := xx.frozen 8
            go_wp2_with fail
            refine (TSx.out _).mono ?_
            rintro e V6 ⟨rfl, hk⟩
            clear xs0 xsz0 xs1 xsz1 xs2 xsz2 xf0 xfz0 xf1 xfz1 xf2 xfz2 xf3 xfz3 xf4 xfz4 xl0 xlz0 xl1 xlz1 xl2 xlz2 xx0 xxz0 xx1 xxz1 xx2 xxz2 xx3 xxz3 xx4 xxz4 xx5 xxz5 xx6 xxz6 xx7 xxz7 xx8 xxz8
            replace hB := below_seq hB hk
            replace xs := xs.seq hk
            replace xf := xf.seq hk
            replace xl := xl.seq hk
            replace xx := xx.seq hk
            clear hk
            have xs0 := xs.cell 0 rfl
            have xsz0 := xs.frozen 0
            have xs1 := xs.cell 1 rfl
            have xsz1 := xs.frozen 1
            have xs2 := xs.cell 2 rfl
            have xsz2 := xs.frozen 2
            have xf0 := xf.cell 0 rfl
            have xfz0 := xf.frozen 0
            have xf1 := xf.cell 1 rfl
            have xfz1 := xf.frozen 1
            have xf2 := xf.cell 2 rfl
            have xfz2 := xf.frozen 2
            have xf3 := xf.cell 3 rfl
            have xfz3 := xf.frozen 3
            have xf4 := xf.cell 4 rfl
            have xfz4 := xf.frozen 4
            have xl0 := xl.cell 0 rfl
            have xlz0 := xl.frozen 0
            have xl1 := xl.cell 1 rfl
            have xlz1 := xl.frozen 1
            have xl2 := xl.cell 2 rfl
            have xlz2 := xl.frozen 2
            have xx0 := xx.cell 0 rfl
            have xxz0 := xx.frozen 0
            have xx1 := xx.cell 1 rfl
            have xxz1 := xx.frozen 1
            have xx2 := xx.cell 2 rfl
            have xxz2 := xx.frozen 2
            have xx3 := xx.cell 3 rfl
            have xxz3 := xx.frozen 3
            have xx4 := xx.cell 4 rfl
            have xxz4 := xx.frozen 4
            have xx5 := xx.cell 5 rfl
            have xxz5 := xx.frozen 5
            have xx6 := xx.cell 6 rfl
            have xxz6 := xx.frozen 6
            have xx7 := xx.cell 7 rfl
            have xxz7 := xx.frozen 7
            have xx8 := xx.cell 8 rfl
            have xxz8 := xx.frozen 8
            go_wp2_with fail
            refine (TPu.out _).mono ?_
            rintro e V7 ⟨rfl, hk⟩
            clear xs0 xsz0 xs1 xsz1 xs2 xsz2 xf0 xfz0 xf1 xfz1 xf2 xfz2 xf3 xfz3 xf4 xfz4 xl0 xlz0 xl1 xlz1 xl2 xlz2 xx0 xxz0 xx1 xxz1 xx2 xxz2 xx3 xxz3 xx4 xxz4 xx5 xxz5 xx6 xxz6 xx7 xxz7 xx8 xxz8
            replace hB := below_seq hB hk
            replace xs := xs.seq hk
            replace xf := xf.seq hk
            replace xl := xl.seq hk
            replace xx := xx.seq hk
            clear hk
            have xg := Box.new 26 V7 [.string g.b0, .string g.b1, .int .i64 g.e0, .int .i64 g.e1, .int .i64 g.lim]
            have ne_xg_xs : V7.heap.size ≠ W.heap.size := Nat.ne_of_gt xs.lt
            have ne_xg_xf : V7.heap.size ≠ V1.heap.size := Nat.ne_of_gt xf.lt
            have ne_xg_xl : V7.heap.size ≠ V2.heap.size := Nat.ne_of_gt xl.lt
            have ne_xg_xx : V7.heap.size ≠ V5.heap.size := Nat.ne_of_gt xx.lt
            have le_xg : W.heap.size ≤ V7.heap.size := hB.size
            replace xs := xs.alloc (.cells #[.string g.b0, .string g.b1, .int .i64 g.e0, .int .i64 g.e1, .int .i64 g.lim] 26)
            replace xf := xf.alloc (.cells #[.string g.b0, .string g.b1, .int .i64 g.e0, .int .i64 g.e1, .int .i64 g.lim] 26)
            replace xl := xl.alloc (.cells #[.string g.b0, .string g.b1, .int .i64 g.e0, .int .i64 g.e1, .int .i64 g.lim] 26)
            replace xx := xx.alloc (.cells #[.string g.b0, .string g.b1, .int .i64 g.e0, .int .i64 g.e1, .int .i64 g.lim] 26)
            replace hB := hB.alloc hB.size (.cells #[.string g.b0, .string g.b1, .int .i64 g.e0, .int .i64 g.e1, .int .i64 g.lim] 26)
            have xs0 := xs.cell 0 rfl
            have xsz0 := xs.frozen 0
            have xs1 := xs.cell 1 rfl
            have xsz1 := xs.frozen 1
            have xs2 := xs.cell 2 rfl
            have xsz2 := xs.frozen 2
            have xf0 := xf.cell 0 rfl
            have xfz0 := xf.frozen 0
            have xf1 := xf.cell 1 rfl
            have xfz1 := xf.frozen 1
            have xf2 := xf.cell 2 rfl
            have xfz2 := xf.frozen 2
            have xf3 := xf.cell 3 rfl
            have xfz3 := xf.frozen 3
            have xf4 := xf.cell 4 rfl
            have xfz4 := xf.frozen 4
            have xl0 := xl.cell 0 rfl
            have xlz0 := xl.frozen 0
            have xl1 := xl.cell 1 rfl
            have xlz1 := xl.frozen 1
            have xl2 := xl.cell 2 rfl
            have xlz2 := xl.frozen 2
            have xx0 := xx.cell 0 rfl
            have xxz0 := xx.frozen 0
            have xx1 := xx.cell 1 rfl
            have xxz1 := xx.frozen 1
            have xx2 := xx.cell 2 rfl
            have xxz2 := xx.frozen 2
            have xx3 := xx.cell 3 rfl
            have xxz3 := xx.frozen 3
            have xx4 := xx.cell 4 rfl
            have xxz4 := xx.frozen 4
            have xx5 := xx.cell 5 rfl
            have xxz5 := xx.frozen 5
            have xx6 := xx.cell 6 rfl
            have xxz6 := xx.frozen 6
            have xx7 := xx.cell 7 rfl
            have xxz7 := xx.frozen 7
            have xx8 := xx.cell 8 rfl
            have xxz8 := xx.frozen 8
            have xg0 := xg.cell 0 rfl
            have xgz0 := xg.frozen 0
            have xg1 := xg.cell 1 rfl
            have xgz1 := xg.frozen 1
            have xg2 := xg.cell 2 rfl
            have xgz2 := xg.frozen 2
            have xg3 := xg.cell 3 rfl
            have xgz3 := xg.frozen 3
            have xg4 := xg.cell 4 rfl
            have xgz4 := xg.frozen 4
            go_wp2_with fail
            refine (TSg.out _).mono ?_
            rintro e V8 ⟨rfl, hk⟩
            clear xs0 xsz0 xs1 xsz1 xs2 xsz2 xf0 xfz0 xf1 xfz1 xf2 xfz2 xf3 xfz3 xf4 xfz4 xl0 xlz0 xl1 xlz1 xl2 xlz2 xx0 xxz0 xx1 xxz1 xx2 xxz2 xx3 xxz3 xx4 xxz4 xx5 xxz5 xx6 xxz6 xx7 xxz7 xx8 xxz8 xg0 xgz0 xg1 xgz1 xg2 xgz2 xg3 xgz3 xg4 xgz4
            replace hB := below_seq hB hk
            replace xs := xs.seq hk
            replace xf := xf.seq hk
            replace xl := xl.seq hk
            replace xx := xx.seq hk
            replace xg := xg.seq hk
            clear hk
            have xs0 := xs.cell 0 rfl
            have xsz0 := xs.frozen 0
            have xs1 := xs.cell 1 rfl
            have xsz1 := xs.frozen 1
            have xs2 := xs.cell 2 rfl
            have xsz2 := xs.frozen 2
            have xf0 := xf.cell 0 rfl
            have xfz0 := xf.frozen 0
            have xf1 := xf.cell 1 rfl
            have xfz1 := xf.frozen 1
            have xf2 := xf.cell 2 rfl
            have xfz2 := xf.frozen 2
            have xf3 := xf.cell 3 rfl
            have xfz3 := xf.frozen 3
            have xf4 := xf.cell 4 rfl
            have xfz4 := xf.frozen 4
            have xl0 := xl.cell 0 rfl
            have xlz0 := xl.frozen 0
            have xl1 := xl.cell 1 rfl
            have xlz1 := xl.frozen 1
            have xl2 := xl.cell 2 rfl
            have xlz2 := xl.frozen 2
            have xx0 := xx.cell 0 rfl
            have xxz0 := xx.frozen 0
            have xx1 := xx.cell 1 rfl
            have xxz1 := xx.frozen 1
            have xx2 := xx.cell 2 rfl
            have xxz2 := xx.frozen 2
            have xx3 := xx.cell 3 rfl
            have xxz3 := xx.frozen 3
            have xx4 := xx.cell 4 rfl
            have xxz4 := xx.frozen 4
            have xx5 := xx.cell 5 rfl
            have xxz5 := xx.frozen 5
            have xx6 := xx.cell 6 rfl
            have xxz6 := xx.frozen 6
            have xx7 := xx.cell 7 rfl
            have xxz7 := xx.frozen 7
            have xx8 := xx.cell 8 rfl
            have xxz8 := xx.frozen 8
            have xg0 := xg.cell 0 rfl
            have xgz0 := xg.frozen 0
            have xg1 := xg.cell 1 rfl
            have xgz1 := xg.frozen 1
            have xg2 := xg.cell 2 rfl
            have xgz2 := xg.frozen 2
            have xg3 := xg.cell 3 rfl
            have xgz3 := xg.frozen 3
            have xg4 := xg.cell 4 rfl
            have xgz4 := xg.frozen 4
            go_wp2
            go_ret
            exact ⟨rfl, hB⟩
      · have hp := put_err (s := s) hE
        have n1 : ((planR x.f s.data).2 != 0) = true := bne_iff_ne.2 hE
        generalize (planR x.f s.data).2 = E at *
        have TPu := Lib.hid (fun (V : World) => (show Calls Try.prog 15 #[.agg #[.string x.f.b0, .string x.f.b1, .int .i64 x.f.e0, .int .i64 x.f.e1, .int .i64 x.f.lim], .agg #[.int .u64 (s.data : Int), .int .i64 s.cut, .string s.mask]] V fun e W' => e = .returned (.tuple #[.agg #[.string x.f.b0, .string x.f.b1, .int .i64 x.f.e0, .int .i64 x.f.e1, .int .i64 x.f.lim], .bool false, .int .i64 E]) ∧ Below V.heap.size V W' from by have h := own12Put x.f s V hxf hs; rw [hp] at h; exact h))
        have TSg := Lib.hid (fun (V : World) => (show Calls Try.prog 13 #[.agg #[.string x.f.b0, .string x.f.b1, .int .i64 x.f.e0, .int .i64 x.f.e1, .int .i64 x.f.lim, .int .i64 0, .int .u64 0, .bool false, .int .u64 0]] V fun e W' => e = .returned (.tuple #[.int .u64 ((pickS x.f).data : Int), .bool (decide (pickE x.f = 0))]) ∧ Below V.heap.size V W' from by have h := own12State (startJ x.f) V hxf.ok; exact h))
        generalize (pickS x.f).data = v at *
        generalize decide (pickE x.f = 0) = b at *
        clear hp hE HX HXl hxf hx
        have hB : Below W.heap.size W (W.alloc (.cells #[.int .u64 (s.data : Int), .int .i64 s.cut, .string s.mask] 36)) := ((Below.refl _ _).alloc (Nat.le_refl _) _)
        have xs := (Box.new 36 W [.int .u64 (s.data : Int), .int .i64 s.cut, .string s.mask])
        go_enter Try.func4, Try.ntmps4
        have xs0 := xs.cell 0 rfl
        have xsz0 := xs.frozen 0
        have xs1 := xs.cell 1 rfl
        have xsz1 := xs.frozen 1
        have xs2 := xs.cell 2 rfl
        have xsz2 := xs.frozen 2
        go_wp2_with fail
        refine (TZ.out _).mono ?_
        rintro e w' ⟨rfl, hw⟩
        rw [hw]
        clear hw w'
        go_wp2_with fail
        refine (TN.out _).mono ?_
        rintro e V1 ⟨rfl, hk⟩
        clear xs0 xsz0 xs1 xsz1 xs2 xsz2
        replace hB := below_seq hB hk
        replace xs := xs.seq hk
        clear hk
        have xf := Box.new 26 V1 [.string F.b0, .string F.b1, .int .i64 F.e0, .int .i64 F.e1, .int .i64 F.lim]
        have ne_xf_xs : V1.heap.size ≠ W.heap.size := Nat.ne_of_gt xs.lt
        have le_xf : W.heap.size ≤ V1.heap.size := hB.size
        replace xs := xs.alloc (.cells #[.string F.b0, .string F.b1, .int .i64 F.e0, .int .i64 F.e1, .int .i64 F.lim] 26)
        replace hB := hB.alloc hB.size (.cells #[.string F.b0, .string F.b1, .int .i64 F.e0, .int .i64 F.e1, .int .i64 F.lim] 26)
        have xs0 := xs.cell 0 rfl
        have xsz0 := xs.frozen 0
        have xs1 := xs.cell 1 rfl
        have xsz1 := xs.frozen 1
        have xs2 := xs.cell 2 rfl
        have xsz2 := xs.frozen 2
        have xf0 := xf.cell 0 rfl
        have xfz0 := xf.frozen 0
        have xf1 := xf.cell 1 rfl
        have xfz1 := xf.frozen 1
        have xf2 := xf.cell 2 rfl
        have xfz2 := xf.frozen 2
        have xf3 := xf.cell 3 rfl
        have xfz3 := xf.frozen 3
        have xf4 := xf.cell 4 rfl
        have xfz4 := xf.frozen 4
        go_wp2_with fail
        refine (TBg.out _ (hlh.out.seq hB)).mono ?_
        rintro e V2 ⟨rfl, hk⟩
        clear xs0 xsz0 xs1 xsz1 xs2 xsz2 xf0 xfz0 xf1 xfz1 xf2 xfz2 xf3 xfz3 xf4 xfz4
        replace hB := below_seq hB hk
        replace xs := xs.seq hk
        replace xf := xf.seq hk
        clear hk
        have xs0 := xs.cell 0 rfl
        have xsz0 := xs.frozen 0
        have xs1 := xs.cell 1 rfl
        have xsz1 := xs.frozen 1
        have xs2 := xs.cell 2 rfl
        have xsz2 := xs.frozen 2
        have xf0 := xf.cell 0 rfl
        have xfz0 := xf.frozen 0
        have xf1 := xf.cell 1 rfl
        have xfz1 := xf.frozen 1
        have xf2 := xf.cell 2 rfl
        have xfz2 := xf.frozen 2
        have xf3 := xf.cell 3 rfl
        have xfz3 := xf.frozen 3
        have xf4 := xf.cell 4 rfl
        have xfz4 := xf.frozen 4
        go_wp2_with fail
        clear xs0 xsz0 xs1 xsz1 xs2 xsz2 xf0 xfz0 xf1 xfz1 xf2 xfz2 xf3 xfz3 xf4 xfz4
        have xl := Box.new 36 V2 [.int .u64 (s.data : Int), .int .i64 s.cut, .string s.mask]
        have ne_xl_xs : V2.heap.size ≠ W.heap.size := Nat.ne_of_gt xs.lt
        have ne_xl_xf : V2.heap.size ≠ V1.heap.size := Nat.ne_of_gt xf.lt
        have le_xl : W.heap.size ≤ V2.heap.size := hB.size
        replace xs := xs.alloc (.cells #[.int .u64 (s.data : Int), .int .i64 s.cut, .string s.mask] 36)
        replace xf := xf.alloc (.cells #[.int .u64 (s.data : Int), .int .i64 s.cut, .string s.mask] 36)
        replace hB := hB.alloc hB.size (.cells #[.int .u64 (s.data : Int), .int .i64 s.cut, .string s.mask] 36)
        have xs0 := xs.cell 0 rfl
        have xsz0 := xs.frozen 0
        have xs1 := xs.cell 1 rfl
        have xsz1 := xs.frozen 1
        have xs2 := xs.cell 2 rfl
        have xsz2 := xs.frozen 2
        have xf0 := xf.cell 0 rfl
        have xfz0 := xf.frozen 0
        have xf1 := xf.cell 1 rfl
        have xfz1 := xf.frozen 1
        have xf2 := xf.cell 2 rfl
        have xfz2 := xf.frozen 2
        have xf3 := xf.cell 3 rfl
        have xfz3 := xf.frozen 3
        have xf4 := xf.cell 4 rfl
        have xfz4 := xf.frozen 4
        have xl0 := xl.cell 0 rfl
        have xlz0 := xl.frozen 0
        have xl1 := xl.cell 1 rfl
        have xlz1 := xl.frozen 1
        have xl2 := xl.cell 2 rfl
        have xlz2 := xl.frozen 2
        have h1 : RowsAt 3 stpV (V2.alloc (.cells #[.int .u64 (s.data : Int), .int .i64 s.cut, .string s.mask] 36)) (some ⟨V2.heap.size, 0, none⟩) [s] := RowsAt.lit (cv := stpV) (n := 3) (by decide) (fun _ => rfl) _ 36 [s]
        refine (TB2.out _ _ h1).mono ?_
        rintro e V3 ⟨rfl, hk⟩
        clear xs0 xsz0 xs1 xsz1 xs2 xsz2 xf0 xfz0 xf1 xfz1 xf2 xfz2 xf3 xfz3 xf4 xfz4 xl0 xlz0 xl1 xlz1 xl2 xlz2
        replace hB := below_seq hB hk
        replace xs := xs.seq hk
        replace xf := xf.seq hk
        replace xl := xl.seq hk
        clear hk
        have xs0 := xs.cell 0 rfl
        have xsz0 := xs.frozen 0
        have xs1 := xs.cell 1 rfl
        have xsz1 := xs.frozen 1
        have xs2 := xs.cell 2 rfl
        have xsz2 := xs.frozen 2
        have xf0 := xf.cell 0 rfl
        have xfz0 := xf.frozen 0
        have xf1 := xf.cell 1 rfl
        have xfz1 := xf.frozen 1
        have xf2 := xf.cell 2 rfl
        have xfz2 := xf.frozen 2
        have xf3 := xf.cell 3 rfl
        have xfz3 := xf.frozen 3
        have xf4 := xf.cell 4 rfl
        have xfz4 := xf.frozen 4
        have xl0 := xl.cell 0 rfl
        have xlz0 := xl.frozen 0
        have xl1 := xl.cell 1 rfl
        have xlz1 := xl.frozen 1
        have xl2 := xl.cell 2 rfl
        have xlz2 := xl.frozen 2
        clear h1
        go_wp2_with fail
        refine (shown12 _).mono ?_
        rintro e V4 ⟨rfl, hk⟩
        clear xs0 xsz0 xs1 xsz1 xs2 xsz2 xf0 xfz0 xf1 xfz1 xf2 xfz2 xf3 xfz3 xf4 xfz4 xl0 xlz0 xl1 xlz1 xl2 xlz2
        replace hB := below_seq hB hk
        replace xs := xs.seq hk
        replace xf := xf.seq hk
        replace xl := xl.seq hk
        clear hk
        have xs0 := xs.cell 0 rfl
        have xsz0 := xs.frozen 0
        have xs1 := xs.cell 1 rfl
        have xsz1 := xs.frozen 1
        have xs2 := xs.cell 2 rfl
        have xsz2 := xs.frozen 2
        have xf0 := xf.cell 0 rfl
        have xfz0 := xf.frozen 0
        have xf1 := xf.cell 1 rfl
        have xfz1 := xf.frozen 1
        have xf2 := xf.cell 2 rfl
        have xfz2 := xf.frozen 2
        have xf3 := xf.cell 3 rfl
        have xfz3 := xf.frozen 3
        have xf4 := xf.cell 4 rfl
        have xfz4 := xf.frozen 4
        have xl0 := xl.cell 0 rfl
        have xlz0 := xl.frozen 0
        have xl1 := xl.cell 1 rfl
        have xlz1 := xl.frozen 1
        have xl2 := xl.cell 2 rfl
        have xlz2 := xl.frozen 2
        go_wp2_with fail
        refine (TRu.out _ (hlh.out.seq hB)).mono ?_
        rintro e V5 ⟨rfl, hk⟩
        clear xs0 xsz0 xs1 xsz1 xs2 xsz2 xf0 xfz0 xf1 xfz1 xf2 xfz2 xf3 xfz3 xf4 xfz4 xl0 xlz0 xl1 xlz1 xl2 xlz2
        replace hB := below_seq hB hk
        replace xs := xs.seq hk
        replace xf := xf.seq hk
        replace xl := xl.seq hk
        clear hk
        have xx := Box.new 33 V5 [.string x.f.b0, .string x.f.b1, .int .i64 x.f.e0, .int .i64 x.f.e1, .int .i64 x.f.lim, .int .i64 x.acked, .int .u64 (x.last : Int), .bool x.flying, .int .u64 (x.flight : Int)]
        have ne_xx_xs : V5.heap.size ≠ W.heap.size := Nat.ne_of_gt xs.lt
        have ne_xx_xf : V5.heap.size ≠ V1.heap.size := Nat.ne_of_gt xf.lt
        have ne_xx_xl : V5.heap.size ≠ V2.heap.size := Nat.ne_of_gt xl.lt
        have le_xx : W.heap.size ≤ V5.heap.size := hB.size
        replace xs := xs.alloc (.cells #[.string x.f.b0, .string x.f.b1, .int .i64 x.f.e0, .int .i64 x.f.e1, .int .i64 x.f.lim, .int .i64 x.acked, .int .u64 (x.last : Int), .bool x.flying, .int .u64 (x.flight : Int)] 33)
        replace xf := xf.alloc (.cells #[.string x.f.b0, .string x.f.b1, .int .i64 x.f.e0, .int .i64 x.f.e1, .int .i64 x.f.lim, .int .i64 x.acked, .int .u64 (x.last : Int), .bool x.flying, .int .u64 (x.flight : Int)] 33)
        replace xl := xl.alloc (.cells #[.string x.f.b0, .string x.f.b1, .int .i64 x.f.e0, .int .i64 x.f.e1, .int .i64 x.f.lim, .int .i64 x.acked, .int .u64 (x.last : Int), .bool x.flying, .int .u64 (x.flight : Int)] 33)
        replace hB := hB.alloc hB.size (.cells #[.string x.f.b0, .string x.f.b1, .int .i64 x.f.e0, .int .i64 x.f.e1, .int .i64 x.f.lim, .int .i64 x.acked, .int .u64 (x.last : Int), .bool x.flying, .int .u64 (x.flight : Int)] 33)
        have xs0 := xs.cell 0 rfl
        have xsz0 := xs.frozen 0
        have xs1 := xs.cell 1 rfl
        have xsz1 := xs.frozen 1
        have xs2 := xs.cell 2 rfl
        have xsz2 := xs.frozen 2
        have xf0 := xf.cell 0 rfl
        have xfz0 := xf.frozen 0
        have xf1 := xf.cell 1 rfl
        have xfz1 := xf.frozen 1
        have xf2 := xf.cell 2 rfl
        have xfz2 := xf.frozen 2
        have xf3 := xf.cell 3 rfl
        have xfz3 := xf.frozen 3
        have xf4 := xf.cell 4 rfl
        have xfz4 := xf.frozen 4
        have xl0 := xl.cell 0 rfl
        have xlz0 := xl.frozen 0
        have xl1 := xl.cell 1 rfl
        have xlz1 := xl.frozen 1
        have xl2 := xl.cell 2 rfl
        have xlz2 := xl.frozen 2
        have xx0 := xx.cell 0 rfl
        have xxz0 := xx.frozen 0
        have xx1 := xx.cell 1 rfl
        have xxz1 := xx.frozen 1
        have xx2 := xx.cell 2 rfl
        have xxz2 := xx.frozen 2
        have xx3 := xx.cell 3 rfl
        have xxz3 := xx.frozen 3
        have xx4 := xx.cell 4 rfl
        have xxz4 := xx.frozen 4
        have xx5 := xx.cell 5 rfl
        have xxz5 := xx.frozen 5
        have xx6 := xx.cell 6 rfl
        have xxz6 := xx.frozen 6
        have xx7 := xx.cell 7 rfl
        have xxz7 := xx.frozen 7
        have xx8 := xx.cell 8 rfl
        have xxz8 := xx.frozen 8
        go_wp2_with fail
        refine (TSx.out _).mono ?_
        rintro e V6 ⟨rfl, hk⟩
        clear xs0 xsz0 xs1 xsz1 xs2 xsz2 xf0 xfz0 xf1 xfz1 xf2 xfz2 xf3 xfz3 xf4 xfz4 xl0 xlz0 xl1 xlz1 xl2 xlz2 xx0 xxz0 xx1 xxz1 xx2 xxz2 xx3 xxz3 xx4 xxz4 xx5 xxz5 xx6 xxz6 xx7 xxz7 xx8 xxz8
        replace hB := below_seq hB hk
        replace xs := xs.seq hk
        replace xf := xf.seq hk
        replace xl := xl.seq hk
        replace xx := xx.seq hk
        clear hk
        have xs0 := xs.cell 0 rfl
        have xsz0 := xs.frozen 0
        have xs1 := xs.cell 1 rfl
        have xsz1 := xs.frozen 1
        have xs2 := xs.cell 2 rfl
        have xsz2 := xs.frozen 2
        have xf0 := xf.cell 0 rfl
        have xfz0 := xf.frozen 0
        have xf1 := xf.cell 1 rfl
        have xfz1 := xf.frozen 1
        have xf2 := xf.cell 2 rfl
        have xfz2 := xf.frozen 2
        have xf3 := xf.cell 3 rfl
        have xfz3 := xf.frozen 3
        have xf4 := xf.cell 4 rfl
        have xfz4 := xf.frozen 4
        have xl0 := xl.cell 0 rfl
        have xlz0 := xl.frozen 0
        have xl1 := xl.cell 1 rfl
        have xlz1 := xl.frozen 1
        have xl2 := xl.cell 2 rfl
        have xlz2 := xl.frozen 2
        have xx0 := xx.cell 0 rfl
        have xxz0 := xx.frozen 0
        have xx1 := xx.cell 1 rfl
        have xxz1 := xx.frozen 1
        have xx2 := xx.cell 2 rfl
        have xxz2 := xx.frozen 2
        have xx3 := xx.cell 3 rfl
        have xxz3 := xx.frozen 3
        have xx4 := xx.cell 4 rfl
        have xxz4 := xx.frozen 4
        have xx5 := xx.cell 5 rfl
        have xxz5 := xx.frozen 5
        have xx6 := xx.cell 6 rfl
        have xxz6 := xx.frozen 6
        have xx7 := xx.cell 7 rfl
        have xxz7 := xx.frozen 7
        have xx8 := xx.cell 8 rfl
        have xxz8 := xx.frozen 8
        go_wp2_with fail
        refine (TPu.out _).mono ?_
        rintro e V7 ⟨rfl, hk⟩
        clear xs0 xsz0 xs1 xsz1 xs2 xsz2 xf0 xfz0 xf1 xfz1 xf2 xfz2 xf3 xfz3 xf4 xfz4 xl0 xlz0 xl1 xlz1 xl2 xlz2 xx0 xxz0 xx1 xxz1 xx2 xxz2 xx3 xxz3 xx4 xxz4 xx5 xxz5 xx6 xxz6 xx7 xxz7 xx8 xxz8
        replace hB := below_seq hB hk
        replace xs := xs.seq hk
        replace xf := xf.seq hk
        replace xl := xl.seq hk
        replace xx := xx.seq hk
        clear hk
        have xg := Box.new 26 V7 [.string x.f.b0, .string x.f.b1, .int .i64 x.f.e0, .int .i64 x.f.e1, .int .i64 x.f.lim]
        have ne_xg_xs : V7.heap.size ≠ W.heap.size := Nat.ne_of_gt xs.lt
        have ne_xg_xf : V7.heap.size ≠ V1.heap.size := Nat.ne_of_gt xf.lt
        have ne_xg_xl : V7.heap.size ≠ V2.heap.size := Nat.ne_of_gt xl.lt
        have ne_xg_xx : V7.heap.size ≠ V5.heap.size := Nat.ne_of_gt xx.lt
        have le_xg : W.heap.size ≤ V7.heap.size := hB.size
        replace xs := xs.alloc (.cells #[.string x.f.b0, .string x.f.b1, .int .i64 x.f.e0, .int .i64 x.f.e1, .int .i64 x.f.lim] 26)
        replace xf := xf.alloc (.cells #[.string x.f.b0, .string x.f.b1, .int .i64 x.f.e0, .int .i64 x.f.e1, .int .i64 x.f.lim] 26)
        replace xl := xl.alloc (.cells #[.string x.f.b0, .string x.f.b1, .int .i64 x.f.e0, .int .i64 x.f.e1, .int .i64 x.f.lim] 26)
        replace xx := xx.alloc (.cells #[.string x.f.b0, .string x.f.b1, .int .i64 x.f.e0, .int .i64 x.f.e1, .int .i64 x.f.lim] 26)
        replace hB := hB.alloc hB.size (.cells #[.string x.f.b0, .string x.f.b1, .int .i64 x.f.e0, .int .i64 x.f.e1, .int .i64 x.f.lim] 26)
        have xs0 := xs.cell 0 rfl
        have xsz0 := xs.frozen 0
        have xs1 := xs.cell 1 rfl
        have xsz1 := xs.frozen 1
        have xs2 := xs.cell 2 rfl
        have xsz2 := xs.frozen 2
        have xf0 := xf.cell 0 rfl
        have xfz0 := xf.frozen 0
        have xf1 := xf.cell 1 rfl
        have xfz1 := xf.frozen 1
        have xf2 := xf.cell 2 rfl
        have xfz2 := xf.frozen 2
        have xf3 := xf.cell 3 rfl
        have xfz3 := xf.frozen 3
        have xf4 := xf.cell 4 rfl
        have xfz4 := xf.frozen 4
        have xl0 := xl.cell 0 rfl
        have xlz0 := xl.frozen 0
        have xl1 := xl.cell 1 rfl
        have xlz1 := xl.frozen 1
        have xl2 := xl.cell 2 rfl
        have xlz2 := xl.frozen 2
        have xx0 := xx.cell 0 rfl
        have xxz0 := xx.frozen 0
        have xx1 := xx.cell 1 rfl
        have xxz1 := xx.frozen 1
        have xx2 := xx.cell 2 rfl
        have xxz2 := xx.frozen 2
        have xx3 := xx.cell 3 rfl
        have xxz3 := xx.frozen 3
        have xx4 := xx.cell 4 rfl
        have xxz4 := xx.frozen 4
        have xx5 := xx.cell 5 rfl
        have xxz5 := xx.frozen 5
        have xx6 := xx.cell 6 rfl
        have xxz6 := xx.frozen 6
        have xx7 := xx.cell 7 rfl
        have xxz7 := xx.frozen 7
        have xx8 := xx.cell 8 rfl
        have xxz8 := xx.frozen 8
        have xg0 := xg.cell 0 rfl
        have xgz0 := xg.frozen 0
        have xg1 := xg.cell 1 rfl
        have xgz1 := xg.frozen 1
        have xg2 := xg.cell 2 rfl
        have xgz2 := xg.frozen 2
        have xg3 := xg.cell 3 rfl
        have xgz3 := xg.frozen 3
        have xg4 := xg.cell 4 rfl
        have xgz4 := xg.frozen 4
        go_wp2_with fail
        refine (TSg.out _).mono ?_
        rintro e V8 ⟨rfl, hk⟩
        clear xs0 xsz0 xs1 xsz1 xs2 xsz2 xf0 xfz0 xf1 xfz1 xf2 xfz2 xf3 xfz3 xf4 xfz4 xl0 xlz0 xl1 xlz1 xl2 xlz2 xx0 xxz0 xx1 xxz1 xx2 xxz2 xx3 xxz3 xx4 xxz4 xx5 xxz5 xx6 xxz6 xx7 xxz7 xx8 xxz8 xg0 xgz0 xg1 xgz1 xg2 xgz2 xg3 xgz3 xg4 xgz4
        replace hB := below_seq hB hk
        replace xs := xs.seq hk
        replace xf := xf.seq hk
        replace xl := xl.seq hk
        replace xx := xx.seq hk
        replace xg := xg.seq hk
        clear hk
        have xs0 := xs.cell 0 rfl
        have xsz0 := xs.frozen 0
        have xs1 := xs.cell 1 rfl
        have xsz1 := xs.frozen 1
        have xs2 := xs.cell 2 rfl
        have xsz2 := xs.frozen 2
        have xf0 := xf.cell 0 rfl
        have xfz0 := xf.frozen 0
        have xf1 := xf.cell 1 rfl
        have xfz1 := xf.frozen 1
        have xf2 := xf.cell 2 rfl
        have xfz2 := xf.frozen 2
        have xf3 := xf.cell 3 rfl
        have xfz3 := xf.frozen 3
        have xf4 := xf.cell 4 rfl
        have xfz4 := xf.frozen 4
        have xl0 := xl.cell 0 rfl
        have xlz0 := xl.frozen 0
        have xl1 := xl.cell 1 rfl
        have xlz1 := xl.frozen 1
        have xl2 := xl.cell 2 rfl
        have xlz2 := xl.frozen 2
        have xx0 := xx.cell 0 rfl
        have xxz0 := xx.frozen 0
        have xx1 := xx.cell 1 rfl
        have xxz1 := xx.frozen 1
        have xx2 := xx.cell 2 rfl
        have xxz2 := xx.frozen 2
        have xx3 := xx.cell 3 rfl
        have xxz3 := xx.frozen 3
        have xx4 := xx.cell 4 rfl
        have xxz4 := xx.frozen 4
        have xx5 := xx.cell 5 rfl
        have xxz5 := xx.frozen 5
        have xx6 := xx.cell 6 rfl
        have xxz6 := xx.frozen 6
        have xx7 := xx.cell 7 rfl
        have xxz7 := xx.frozen 7
        have xx8 := xx.cell 8 rfl
        have xxz8 := xx.frozen 8
        have xg0 := xg.cell 0 rfl
        have xgz0 := xg.frozen 0
        have xg1 := xg.cell 1 rfl
        have xgz1 := xg.frozen 1
        have xg2 := xg.cell 2 rfl
        have xgz2 := xg.frozen 2
        have xg3 := xg.cell 3 rfl
        have xgz3 := xg.frozen 3
        have xg4 := xg.cell 4 rfl
        have xgz4 := xg.frozen 4
        go_wp2
        go_ret
        exact ⟨rfl, hB⟩

theorem own : ownKnob Try.prog.godebug = none := by kernel_rfl

set_option maxRecDepth 100000 in
theorem lifted (os : Os) (started : os.Started) (H : Type) (enc : TypeId × Value → H) :
    ReturnsInHanded {} Try.checked os 4 .any (Rows.journalOneSpec.pre6 enc Try.prog Try.f4 Rows.journalOneRow.domain false) (Rows.journalOneSpec.post enc Try.prog Try.f4 false true false false) := by
  refine returnsInHanded_of_change (C := Try.checked) own started (by kernel_rfl) Try.func4
    (ChangeSpec.witness6 (enc := enc) (C := Try.checked) false ⟨#[], #[.int .u8 0, .int .u8 0, .slice none 0 0, .agg #[.int .u64 0, .int .i64 0, .string ⟨#[]⟩]], []⟩ 8 (by kernel_rfl) (by kernel_rfl) (by kernel_rfl) (by kernel_rfl)) ?_
  intro W base args ds gs before hval hW _ _
  have hW' := hW
  obtain ⟨p, q, hA0, hV, rfl, hfz, hnd⟩ := hW
  have hA : DataW.TrodAll enc Try.prog W 0 (fun _ => true) true Try.f4.params.toList args.toList ds p := hA0
  rw [Try.params4] at hA hval
  obtain ⟨v0, vs0, d0, ds0, p0, q0, hargs, rfl, rfl, h0, r0⟩ := trodAll_cons hA
  obtain ⟨v1, vs1, d1, ds1, p1, q1, rfl, rfl, rfl, h1, r1⟩ := trodAll_cons r0
  obtain ⟨v2, vs2, d2, ds2, p2, q2, rfl, rfl, rfl, h2, r2⟩ := trodAll_cons r1
  obtain ⟨v3, vs3, d3, ds3, p3, q3, rfl, rfl, rfl, h3, r3⟩ := trodAll_cons r2
  obtain ⟨rfl, rfl, rfl⟩ := trodAll_nil r3
  obtain rfl : args = #[v0, v1, v2, v3] := by cases args; simp_all
  obtain ⟨rfl, rfl⟩ := trodVars_none hV
  obtain ⟨a0, rfl, rfl, rfl, w0⟩ := open_int Try.underlying5 (hval 0 5 v0 rfl rfl) h0
  obtain ⟨c0, rfl⟩ := int_u8 w0
  obtain ⟨a1, rfl, rfl, rfl, w1⟩ := open_int Try.underlying5 (hval 1 5 v1 rfl rfl) h1
  obtain ⟨c1, rfl⟩ := int_u8 w1
  have k2 := h2
  obtain ⟨s2, A2, c2, rfl, hs2, ho2, hp2, hq2⟩ := open_stps (hval 2 22 v2 rfl rfl) h2
  have k3 := h3
  obtain ⟨s3, rfl, hs3⟩ := open_stp (hval 3 36 v3 rfl rfl) h3
  clear hA0
  simp only [List.append_nil] at hW'
  refine (walk c0 c1 s2 A2 c2 s3 W hs2 ho2 hp2 hq2 hs3).mono fun e W' ⟨he, hB⟩ => ?_
  subst he
  exact ⟨_, rfl, ⟨_, _, _, [], _, [], hW', trodAll_cons_mk (shut_bool Try.underlying4 _) trodAll_mk0, (trodAll_cons_mk (shut_int Try.underlying5 w0) (trodAll_cons_mk (shut_int Try.underlying5 w1) (trodAll_cons_mk (Below.trod Try.laidOut (by kernel_rfl) (of_decide_eq_true (by kernel_rfl)) k2 hB (fun x hx => by simpa using hW'.lt x (by simp [hx]))) (trodAll_cons_mk (Below.trod Try.laidOut (by kernel_rfl) (of_decide_eq_true (by kernel_rfl)) k3 hB (fun x hx => by simpa using hW'.lt x (by simp [hx]))) trodAll_mk0)))), rfl, hB.frame _, fun h => by cases h⟩⟩

theorem holds : Rows.JournalOneSaid :=
  OpenClaim.holds_of_wide 4 Try.f4 rfl rfl rfl rfl rfl rfl rfl ⟨rfl, rfl, rfl, rfl, rfl⟩ rfl rfl rfl rfl rfl (by kernel_rfl) Try.func4 (by kernel_rfl)
    (of_decide_eq_true (by kernel_rfl)) (by unfold Func.isWrapper; first | (rw [if_pos (by decide +kernel)]; kernel_rfl) | (rw [if_neg (by decide +kernel)]; exact ⟨rfl, rfl⟩))
    (fun os started H enc _ => lifted os started H enc)
end Go.Proofs.Ythmpjoiifglbjaa.JournalOne

/- A state that was cut can be written again, as long as the flash is not worn out; then it is acknowledged, and read (JournalAgain); no condition. -/
import Derived.Test.YthmpjoiifglbjaaJourLaw
import Derived.Test.YthmpjoiifglbjaaJourOpen
import Derived.Deep.RegionHeld3
import Derived.WalkLawsBesides
import Derived.WalkSpells
import Derived.IntWalk
import Derived.Lib.Hide
import Derived.Test.YthmpjoiifglbjaaBox
import Derived.ProofKit
import Derived.OpenShut
import Derived.ChangeMaps5
import Derived.Test.YthmpjoiifglbjaaInts
namespace Go.Proofs.Ythmpjoiifglbjaa.JournalAgain
open Go.ChangeShapes Go.WideShapes Go.ChangeAt Go.RowKit Go.ChangeMaps
set_option linter.unusedVariables false
set_option linter.unusedSimpArgs false

set_option maxRecDepth 100000 in
set_option maxHeartbeats 3000000 in
theorem walk (n : UInt8) (l : List Stp) (lA : Option Addr) (lc : Nat) (s : Stp) (W : World) (hl : RowsAt 3 stpV W lA l) (hlo : ∀ o ∈ l, o.ok) (hl1 : l.length ≤ lc) (hl2 : lc ≤ maxLen) (hs : s.ok) :
    Calls Try.prog 7 #[.int .u8 (n.toNat : Int), .slice lA l.length lc, .agg #[.int .u64 (s.data : Int), .int .i64 s.cut, .string s.mask]] W fun e W' => e = .returned (.bool true) ∧ Below W.heap.size W W' := by
  obtain ⟨K, hK⟩ : ∃ K : Nat, K = 1 + n.toNat % 12 := ⟨_, rfl⟩
  have hK12 : 1 ≤ K ∧ K ≤ 12 := by omega
  have k0 : wrap64 (n.toNat : Int) = (n.toNat : Int) := w64_u8 n
  have kw : (K : Int) = 1 + (n.toNat : Int) % 12 := by omega
  have hS := start_li hK12 (lim := 200) (by omega)
  have hF := newF_fit ((24 * K + 24 : Nat) : Int) 200 (by omega)
  have hL : (newF ((24 * K + 24 : Nat) : Int) 200).lim = 200 := (new_ji hK12 (lim := 200) (by omega)).2.2.1
  have TZ := Lib.hid (fun (V : World) => (show Calls Try.prog 9 #[.int .i64 (1 + (n.toNat : Int) % 12)] V fun e W' => e = .returned (.int .i64 ((24 * K + 24 : Nat) : Int)) ∧ W' = V from by have h := ref05Size (K : Int) V; rw [show sizeF (K : Int) = ((24 * K + 24 : Nat) : Int) from by unfold sizeF; rw [if_pos (by omega)]; omega] at h; rw [kw] at h; exact h))
  clear kw
  have TN := Lib.hid (fun (V : World) => flNew ((24 * K + 24 : Nat) : Int) 200 V)
  obtain ⟨F, hFF⟩ : ∃ F, newF ((24 * K + 24 : Nat) : Int) 200 = F := ⟨_, rfl⟩
  rw [hFF] at hS hF TN hL
  replace hL := Lib.hid hL
  obtain ⟨Z, hZ⟩ : ∃ Z : Int, ((24 * K + 24 : Nat) : Int) = Z := ⟨_, rfl⟩
  rw [hZ] at TZ TN
  clear hZ
  have hlh := Lib.hid hl
  clear hl
  by_cases hbig : big12 F l = true
  · have TBg := Lib.hid (fun (V : World) (h : RowsAt 3 stpV V lA l) => (show Calls Try.prog 10 #[.agg #[.string F.b0, .string F.b1, .int .i64 F.e0, .int .i64 F.e1, .int .i64 F.lim], .slice lA l.length lc] V fun e W' => e = .returned (.bool true) ∧ Below V.heap.size V W' from by have k := law12Big F l lA lc V hlo h ⟨hl1, hl2⟩; rwa [hbig] at k))
    clear hbig
    have hB : Below W.heap.size W (W.alloc (.cells #[.int .u64 (s.data : Int), .int .i64 s.cut, .string s.mask] 36)) := ((Below.refl _ _).alloc (Nat.le_refl _) _)
    have xs := (Box.new 36 W [.int .u64 (s.data : Int), .int .i64 s.cut, .string s.mask])
    go_enter Try.func7, Try.ntmps7
    have xs0 := xs.cell 0 rfl
    have xsz0 := xs.frozen 0
    have xs1 := xs.cell 1 rfl
    have xsz1 := xs.frozen 1
    have xs2 := xs.cell 2 rfl
    have xsz2 := xs.frozen 2
    go_wp2_with fail
    refine (TZ.out _).mono ?_
    rintro e w' ⟨rfl, hw⟩
    rw [hw]
    clear hw w'
    go_wp2_with fail
    refine (TN.out _).mono ?_
    rintro e V1 ⟨rfl, hk⟩
    clear xs0 xsz0 xs1 xsz1 xs2 xsz2
    replace hB := below_seq hB hk
    replace xs := xs.seq hk
    clear hk
    have xf := Box.new 26 V1 [.string F.b0, .string F.b1, .int .i64 F.e0, .int .i64 F.e1, .int .i64 F.lim]
    have ne_xf_xs : V1.heap.size ≠ W.heap.size := Nat.ne_of_gt xs.lt
    have le_xf : W.heap.size ≤ V1.heap.size := hB.size
    replace xs := xs.alloc (.cells #[.string F.b0, .string F.b1, .int .i64 F.e0, .int .i64 F.e1, .int .i64 F.lim] 26)
    replace hB := hB.alloc hB.size (.cells #[.string F.b0, .string F.b1, .int .i64 F.e0, .int .i64 F.e1, .int .i64 F.lim] 26)
    have xs0 := xs.cell 0 rfl
    have xsz0 := xs.frozen 0
    have xs1 := xs.cell 1 rfl
    have xsz1 := xs.frozen 1
    have xs2 := xs.cell 2 rfl
    have xsz2 := xs.frozen 2
    have xf0 := xf.cell 0 rfl
    have xfz0 := xf.frozen 0
    have xf1 := xf.cell 1 rfl
    have xfz1 := xf.frozen 1
    have xf2 := xf.cell 2 rfl
    have xfz2 := xf.frozen 2
    have xf3 := xf.cell 3 rfl
    have xfz3 := xf.frozen 3
    have xf4 := xf.cell 4 rfl
    have xfz4 := xf.frozen 4
    go_wp2_with fail
    refine (TBg.out _ (hlh.out.seq hB)).mono ?_
    rintro e V2 ⟨rfl, hk⟩
    clear xs0 xsz0 xs1 xsz1 xs2 xsz2 xf0 xfz0 xf1 xfz1 xf2 xfz2 xf3 xfz3 xf4 xfz4
    replace hB := below_seq hB hk
    replace xs := xs.seq hk
    replace xf := xf.seq hk
    clear hk
    have xs0 := xs.cell 0 rfl
    have xsz0 := xs.frozen 0
    have xs1 := xs.cell 1 rfl
    have xsz1 := xs.frozen 1
    have xs2 := xs.cell 2 rfl
    have xsz2 := xs.frozen 2
    have xf0 := xf.cell 0 rfl
    have xfz0 := xf.frozen 0
    have xf1 := xf.cell 1 rfl
    have xfz1 := xf.frozen 1
    have xf2 := xf.cell 2 rfl
    have xfz2 := xf.frozen 2
    have xf3 := xf.cell 3 rfl
    have xfz3 := xf.frozen 3
    have xf4 := xf.cell 4 rfl
    have xfz4 := xf.frozen 4
    go_wp2_with fail
    refine (shown12 _).mono ?_
    rintro e V3 ⟨rfl, hk⟩
    clear xs0 xsz0 xs1 xsz1 xs2 xsz2 xf0 xfz0 xf1 xfz1 xf2 xfz2 xf3 xfz3 xf4 xfz4
    replace hB := below_seq hB hk
    replace xs := xs.seq hk
    replace xf := xf.seq hk
    clear hk
    have xs0 := xs.cell 0 rfl
    have xsz0 := xs.frozen 0
    have xs1 := xs.cell 1 rfl
    have xsz1 := xs.frozen 1
    have xs2 := xs.cell 2 rfl
    have xsz2 := xs.frozen 2
    have xf0 := xf.cell 0 rfl
    have xfz0 := xf.frozen 0
    have xf1 := xf.cell 1 rfl
    have xfz1 := xf.frozen 1
    have xf2 := xf.cell 2 rfl
    have xfz2 := xf.frozen 2
    have xf3 := xf.cell 3 rfl
    have xfz3 := xf.frozen 3
    have xf4 := xf.cell 4 rfl
    have xfz4 := xf.frozen 4
    go_wp2
    go_ret
    exact ⟨rfl, hB⟩
  · have hbig2 : big12 F l = false := by cases h : big12 F l with | false => rfl | true => exact absurd h hbig
    have TBg := Lib.hid (fun (V : World) (h : RowsAt 3 stpV V lA l) => (show Calls Try.prog 10 #[.agg #[.string F.b0, .string F.b1, .int .i64 F.e0, .int .i64 F.e1, .int .i64 F.lim], .slice lA l.length lc] V fun e W' => e = .returned (.bool false) ∧ Below V.heap.size V W' from by have k := law12Big F l lA lc V hlo h ⟨hl1, hl2⟩; rwa [hbig2] at k))
    have hl60 := big12_no hbig2
    clear hbig hbig2
    clear hFF hK
    by_cases hbig : big12 F [s] = true
    · have TB2 := Lib.hid (fun (A : Option Addr) (V : World) (h : RowsAt 3 stpV V A [s]) => (show Calls Try.prog 10 #[.agg #[.string F.b0, .string F.b1, .int .i64 F.e0, .int .i64 F.e1, .int .i64 F.lim], .slice A 1 1] V fun e W' => e = .returned (.bool true) ∧ Below V.heap.size V W' from by have k := law12Big F [s] A 1 V (fun o ho => by rw [List.mem_singleton.1 ho]; exact hs) h ⟨Nat.le_refl _, by unfold maxLen; decide⟩; rwa [hbig] at k))
      clear hbig
      have hB : Below W.heap.size W (W.alloc (.cells #[.int .u64 (s.data : Int), .int .i64 s.cut, .string s.mask] 36)) := ((Below.refl _ _).alloc (Nat.le_refl _) _)
      have xs := (Box.new 36 W [.int .u64 (s.data : Int), .int .i64 s.cut, .string s.mask])
      go_enter Try.func7, Try.ntmps7
      have xs0 := xs.cell 0 rfl
      have xsz0 := xs.frozen 0
      have xs1 := xs.cell 1 rfl
      have xsz1 := xs.frozen 1
      have xs2 := xs.cell 2 rfl
      have xsz2 := xs.frozen 2
      go_wp2_with fail
      refine (TZ.out _).mono ?_
      rintro e w' ⟨rfl, hw⟩
      rw [hw]
      clear hw w'
      go_wp2_with fail
      refine (TN.out _).mono ?_
      rintro e V1 ⟨rfl, hk⟩
      clear xs0 xsz0 xs1 xsz1 xs2 xsz2
      replace hB := below_seq hB hk
      replace xs := xs.seq hk
      clear hk
      have xf := Box.new 26 V1 [.string F.b0, .string F.b1, .int .i64 F.e0, .int .i64 F.e1, .int .i64 F.lim]
      have ne_xf_xs : V1.heap.size ≠ W.heap.size := Nat.ne_of_gt xs.lt
      have le_xf : W.heap.size ≤ V1.heap.size := hB.size
      replace xs := xs.alloc (.cells #[.string F.b0, .string F.b1, .int .i64 F.e0, .int .i64 F.e1, .int .i64 F.lim] 26)
      replace hB := hB.alloc hB.size (.cells #[.string F.b0, .string F.b1, .int .i64 F.e0, .int .i64 F.e1, .int .i64 F.lim] 26)
      have xs0 := xs.cell 0 rfl
      have xsz0 := xs.frozen 0
      have xs1 := xs.cell 1 rfl
      have xsz1 := xs.frozen 1
      have xs2 := xs.cell 2 rfl
      have xsz2 := xs.frozen 2
      have xf0 := xf.cell 0 rfl
      have xfz0 := xf.frozen 0
      have xf1 := xf.cell 1 rfl
      have xfz1 := xf.frozen 1
      have xf2 := xf.cell 2 rfl
      have xfz2 := xf.frozen 2
      have xf3 := xf.cell 3 rfl
      have xfz3 := xf.frozen 3
      have xf4 := xf.cell 4 rfl
      have xfz4 := xf.frozen 4
      go_wp2_with fail
      refine (TBg.out _ (hlh.out.seq hB)).mono ?_
      rintro e V2 ⟨rfl, hk⟩
      clear xs0 xsz0 xs1 xsz1 xs2 xsz2 xf0 xfz0 xf1 xfz1 xf2 xfz2 xf3 xfz3 xf4 xfz4
      replace hB := below_seq hB hk
      replace xs := xs.seq hk
      replace xf := xf.seq hk
      clear hk
      have xs0 := xs.cell 0 rfl
      have xsz0 := xs.frozen 0
      have xs1 := xs.cell 1 rfl
      have xsz1 := xs.frozen 1
      have xs2 := xs.cell 2 rfl
      have xsz2 := xs.frozen 2
      have xf0 := xf.cell 0 rfl
      have xfz0 := xf.frozen 0
      have xf1 := xf.cell 1 rfl
      have xfz1 := xf.frozen 1
      have xf2 := xf.cell 2 rfl
      have xfz2 := xf.frozen 2
      have xf3 := xf.cell 3 rfl
      have xfz3 := xf.frozen 3
      have xf4 := xf.cell 4 rfl
      have xfz4 := xf.frozen 4
      go_wp2_with fail
      clear xs0 xsz0 xs1 xsz1 xs2 xsz2 xf0 xfz0 xf1 xfz1 xf2 xfz2 xf3 xfz3 xf4 xfz4
      have xl := Box.new 36 V2 [.int .u64 (s.data : Int), .int .i64 s.cut, .string s.mask]
      have ne_xl_xs : V2.heap.size ≠ W.heap.size := Nat.ne_of_gt xs.lt
      have ne_xl_xf : V2.heap.size ≠ V1.heap.size := Nat.ne_of_gt xf.lt
      have le_xl : W.heap.size ≤ V2.heap.size := hB.size
      replace xs := xs.alloc (.cells #[.int .u64 (s.data : Int), .int .i64 s.cut, .string s.mask] 36)
      replace xf := xf.alloc (.cells #[.int .u64 (s.data : Int), .int .i64 s.cut, .string s.mask] 36)
      replace hB := hB.alloc hB.size (.cells #[.int .u64 (s.data : Int), .int .i64 s.cut, .string s.mask] 36)
      have xs0 := xs.cell 0 rfl
      have xsz0 := xs.frozen 0
      have xs1 := xs.cell 1 rfl
      have xsz1 := xs.frozen 1
      have xs2 := xs.cell 2 rfl
      have xsz2 := xs.frozen 2
      have xf0 := xf.cell 0 rfl
      have xfz0 := xf.frozen 0
      have xf1 := xf.cell 1 rfl
      have xfz1 := xf.frozen 1
      have xf2 := xf.cell 2 rfl
      have xfz2 := xf.frozen 2
      have xf3 := xf.cell 3 rfl
      have xfz3 := xf.frozen 3
      have xf4 := xf.cell 4 rfl
      have xfz4 := xf.frozen 4
      have xl0 := xl.cell 0 rfl
      have xlz0 := xl.frozen 0
      have xl1 := xl.cell 1 rfl
      have xlz1 := xl.frozen 1
      have xl2 := xl.cell 2 rfl
      have xlz2 := xl.frozen 2
      have h1 : RowsAt 3 stpV (V2.alloc (.cells #[.int .u64 (s.data : Int), .int .i64 s.cut, .string s.mask] 36)) (some ⟨V2.heap.size, 0, none⟩) [s] := RowsAt.lit (cv := stpV) (n := 3) (by decide) (fun _ => rfl) _ 36 [s]
      refine (TB2.out _ _ h1).mono ?_
      rintro e V3 ⟨rfl, hk⟩
      clear xs0 xsz0 xs1 xsz1 xs2 xsz2 xf0 xfz0 xf1 xfz1 xf2 xfz2 xf3 xfz3 xf4 xfz4 xl0 xlz0 xl1 xlz1 xl2 xlz2
      replace hB := below_seq hB hk
      replace xs := xs.seq hk
      replace xf := xf.seq hk
      replace xl := xl.seq hk
      clear hk
      have xs0 := xs.cell 0 rfl
      have xsz0 := xs.frozen 0
      have xs1 := xs.cell 1 rfl
      have xsz1 := xs.frozen 1
      have xs2 := xs.cell 2 rfl
      have xsz2 := xs.frozen 2
      have xf0 := xf.cell 0 rfl
      have xfz0 := xf.frozen 0
      have xf1 := xf.cell 1 rfl
      have xfz1 := xf.frozen 1
      have xf2 := xf.cell 2 rfl
      have xfz2 := xf.frozen 2
      have xf3 := xf.cell 3 rfl
      have xfz3 := xf.frozen 3
      have xf4 := xf.cell 4 rfl
      have xfz4 := xf.frozen 4
      have xl0 := xl.cell 0 rfl
      have xlz0 := xl.frozen 0
      have xl1 := xl.cell 1 rfl
      have xlz1 := xl.frozen 1
      have xl2 := xl.cell 2 rfl
      have xlz2 := xl.frozen 2
      clear h1
      go_wp2_with fail
      refine (shown12 _).mono ?_
      rintro e V4 ⟨rfl, hk⟩
      clear xs0 xsz0 xs1 xsz1 xs2 xsz2 xf0 xfz0 xf1 xfz1 xf2 xfz2 xf3 xfz3 xf4 xfz4 xl0 xlz0 xl1 xlz1 xl2 xlz2
      replace hB := below_seq hB hk
      replace xs := xs.seq hk
      replace xf := xf.seq hk
      replace xl := xl.seq hk
      clear hk
      have xs0 := xs.cell 0 rfl
      have xsz0 := xs.frozen 0
      have xs1 := xs.cell 1 rfl
      have xsz1 := xs.frozen 1
      have xs2 := xs.cell 2 rfl
      have xsz2 := xs.frozen 2
      have xf0 := xf.cell 0 rfl
      have xfz0 := xf.frozen 0
      have xf1 := xf.cell 1 rfl
      have xfz1 := xf.frozen 1
      have xf2 := xf.cell 2 rfl
      have xfz2 := xf.frozen 2
      have xf3 := xf.cell 3 rfl
      have xfz3 := xf.frozen 3
      have xf4 := xf.cell 4 rfl
      have xfz4 := xf.frozen 4
      have xl0 := xl.cell 0 rfl
      have xlz0 := xl.frozen 0
      have xl1 := xl.cell 1 rfl
      have xlz1 := xl.frozen 1
      have xl2 := xl.cell 2 rfl
      have xlz2 := xl.frozen 2
      go_wp2
      go_ret
      exact ⟨rfl, hB⟩
    · have hbig2 : big12 F [s] = false := by cases h : big12 F [s] with | false => rfl | true => exact absurd h hbig
      have TB2 := Lib.hid (fun (A : Option Addr) (V : World) (h : RowsAt 3 stpV V A [s]) => (show Calls Try.prog 10 #[.agg #[.string F.b0, .string F.b1, .int .i64 F.e0, .int .i64 F.e1, .int .i64 F.lim], .slice A 1 1] V fun e W' => e = .returned (.bool false) ∧ Below V.heap.size V W' from by have k := law12Big F [s] A 1 V (fun o ho => by rw [List.mem_singleton.1 ho]; exact hs) h ⟨Nat.le_refl _, by unfold maxLen; decide⟩; rwa [hbig2] at k))
      clear hbig hbig2
      obtain ⟨u, hu⟩ : ∃ x, runJ (startJ F) l = x := ⟨_, rfl⟩
      obtain ⟨HX, HXl⟩ := run_li (f := F) (c := 0) l (startJ F) hS (fun s hs => (hlo s hs).nd)
      have hxf := runJ_fit l (startJ F) hF
      rw [hu] at HX HXl hxf
      rw [Nat.zero_add] at HX
      have TRu := Lib.hid (fun (V : World) (h : RowsAt 3 stpV V lA l) => (show Calls Try.prog 14 #[.agg #[.string F.b0, .string F.b1, .int .i64 F.e0, .int .i64 F.e1, .int .i64 F.lim], .slice lA l.length lc] V fun e W' => e = .returned (.agg #[.string u.f.b0, .string u.f.b1, .int .i64 u.f.e0, .int .i64 u.f.e1, .int .i64 u.f.lim, .int .i64 u.acked, .int .u64 (u.last : Int), .bool u.flying, .int .u64 (u.flight : Int)]) ∧ Below V.heap.size V W' from by have k := own12Run F l lA lc V hF h hlo ⟨hl1, hl2⟩; rwa [hu] at k))
      clear hS
      obtain ⟨x, hx⟩ : ∃ x, playJ u s = x := ⟨_, rfl⟩
      obtain ⟨HY, HYl, _⟩ := play_li HX hs.nd
      have hyf := playJ_fit hxf s
      rw [hx] at HY HYl hyf
      have TP := Lib.hid (fun (V : World) => (show Calls Try.prog 12 #[.agg #[.string u.f.b0, .string u.f.b1, .int .i64 u.f.e0, .int .i64 u.f.e1, .int .i64 u.f.lim, .int .i64 u.acked, .int .u64 (u.last : Int), .bool u.flying, .int .u64 (u.flight : Int)], .agg #[.int .u64 (s.data : Int), .int .i64 s.cut, .string s.mask]] V fun e W' => e = .returned (.agg #[.string x.f.b0, .string x.f.b1, .int .i64 x.f.e0, .int .i64 x.f.e1, .int .i64 x.f.lim, .int .i64 x.acked, .int .u64 (x.last : Int), .bool x.flying, .int .u64 (x.flight : Int)]) ∧ Below V.heap.size V W' from by have h := own12Play u s V hxf (HX.small (by omega)) hs; rwa [hx] at h))
      have hs0 : Stp.ok ⟨s.data, -1, ⟨#[]⟩⟩ := ⟨hs.nd, by show _ ≤ (-1 : Int) ∧ (-1 : Int) ≤ _; decide, Nat.zero_le _⟩
      have hE : (planR x.f s.data).2 = 0 := by
        have hlim : x.f.lim = 200 := HYl.trans (HXl.trans hL.out)
        have e0 := HY.j.e 0 (Or.inl rfl)
        have e1 := HY.j.e 1 (Or.inr rfl)
        rcases plan_wears HY.j (by omega) s.data with h | ⟨_, h | h⟩
        · exact h
        · omega
        · omega
      obtain ⟨p1, p2, p3, p4, p5⟩ := put_ji (s := ⟨s.data, -1, ⟨#[]⟩⟩) HY.j hs.nd hE
      have hak := p5.2 (by show ¬ (0 ≤ (-1 : Int) ∧ _); omega)
      obtain ⟨q1, q2, q3⟩ := p4 hak
      have hgf := putJ_fit hyf ⟨s.data, -1, ⟨#[]⟩⟩
      obtain ⟨g, hp⟩ : ∃ g, putJ x.f ⟨s.data, -1, ⟨#[]⟩⟩ = (g, true, 0) := ⟨(putJ x.f ⟨s.data, -1, ⟨#[]⟩⟩).1, by rw [← hak]; refine Prod.ext rfl (Prod.ext rfl ?_); exact (put_e _ _).trans hE⟩
      rw [hp] at q1 q2 hgf
      dsimp only at q1 q2 hgf
      have TPu := Lib.hid (fun (V : World) => (show Calls Try.prog 15 #[.agg #[.string x.f.b0, .string x.f.b1, .int .i64 x.f.e0, .int .i64 x.f.e1, .int .i64 x.f.lim], .agg #[.int .u64 (s.data : Int), .int .i64 (-1), .string ⟨#[]⟩]] V fun e W' => e = .returned (.tuple #[.agg #[.string g.b0, .string g.b1, .int .i64 g.e0, .int .i64 g.e1, .int .i64 g.lim], .bool true, .int .i64 0]) ∧ Below V.heap.size V W' from by have h := own12Put x.f ⟨s.data, -1, ⟨#[]⟩⟩ V hyf hs0; rw [hp] at h; exact h))
      have TSg := Lib.hid (fun (V : World) => (show Calls Try.prog 13 #[.agg #[.string g.b0, .string g.b1, .int .i64 g.e0, .int .i64 g.e1, .int .i64 g.lim, .int .i64 0, .int .u64 0, .bool false, .int .u64 0]] V fun e W' => e = .returned (.tuple #[.int .u64 (s.data : Int), .bool true]) ∧ Below V.heap.size V W' from by have h := own12State (startJ g) V hgf.ok; rw [show pickE (startJ g).f = 0 from q1, show (pickS (startJ g).f).data = s.data from q2] at h; exact h))
      clear hp hE p1 p2 p3 p4 p5 hak q1 q2 q3 hgf HX HXl HY HYl hxf hyf hx hu hs0 hL
      have hB : Below W.heap.size W (W.alloc (.cells #[.int .u64 (s.data : Int), .int .i64 s.cut, .string s.mask] 36)) := ((Below.refl _ _).alloc (Nat.le_refl _) _)
      have xs := (Box.new 36 W [.int .u64 (s.data : Int), .int .i64 s.cut, .string s.mask])
      go_enter Try.func7, Try.ntmps7
      have xs0 := xs.cell 0 rfl
      have xsz0 := xs.frozen 0
      have xs1 := xs.cell 1 rfl
      have xsz1 := xs.frozen 1
      have xs2 := xs.cell 2 rfl
      have xsz2 := xs.frozen 2
      go_wp2_with fail
      refine (TZ.out _).mono ?_
      rintro e w' ⟨rfl, hw⟩
      rw [hw]
      clear hw w'
      go_wp2_with fail
      refine (TN.out _).mono ?_
      rintro e V1 ⟨rfl, hk⟩
      clear xs0 xsz0 xs1 xsz1 xs2 xsz2
      replace hB := below_seq hB hk
      replace xs := xs.seq hk
      clear hk
      have xf := Box.new 26 V1 [.string F.b0, .string F.b1, .int .i64 F.e0, .int .i64 F.e1, .int .i64 F.lim]
      have ne_xf_xs : V1.heap.size ≠ W.heap.size := Nat.ne_of_gt xs.lt
      have le_xf : W.heap.size ≤ V1.heap.size := hB.size
      replace xs := xs.alloc (.cells #[.string F.b0, .string F.b1, .int .i64 F.e0, .int .i64 F.e1, .int .i64 F.lim] 26)
      replace hB := hB.alloc hB.size (.cells #[.string F.b0, .string F.b1, .int .i64 F.e0, .int .i64 F.e1, .int .i64 F.lim] 26)
      have xs0 := xs.cell 0 rfl
      have xsz0 := xs.frozen 0
      have xs1 := xs.cell 1 rfl
      have xsz1 := xs.frozen 1
      have xs2 := xs.cell 2 rfl
      have xsz2 := xs.frozen 2
      have xf0 := xf.cell 0 rfl
      have xfz0 := xf.frozen 0
      have xf1 := xf.cell 1 rfl
      have xfz1 := xf.frozen 1
      have xf2 := xf.cell 2 rfl
      have xfz2 := xf.frozen 2
      have xf3 := xf.cell 3 rfl
      have xfz3 := xf.frozen 3
      have xf4 := xf.cell 4 rfl
      have xfz4 := xf.frozen 4
      go_wp2_with fail
      refine (TBg.out _ (hlh.out.seq hB)).mono ?_
      rintro e V2 ⟨rfl, hk⟩
      clear xs0 xsz0 xs1 xsz1 xs2 xsz2 xf0 xfz0 xf1 xfz1 xf2 xfz2 xf3 xfz3 xf4 xfz4
      replace hB := below_seq hB hk
      replace xs := xs.seq hk
      replace xf := xf.seq hk
      clear hk
      have xs0 := xs.cell 0 rfl
      have xsz0 := xs.frozen 0
      have xs1 := xs.cell 1 rfl
      have xsz1 := xs.frozen 1
      have xs2 := xs.cell 2 rfl
      have xsz2 := xs.frozen 2
      have xf0 := xf.cell 0 rfl
      have xfz0 := xf.frozen 0
      have xf1 := xf.cell 1 rfl
      have xfz1 := xf.frozen 1
      have xf2 := xf.cell 2 rfl
      have xfz2 := xf.frozen 2
      have xf3 := xf.cell 3 rfl
      have xfz3 := xf.frozen 3
      have xf4 := xf.cell 4 rfl
      have xfz4 := xf.frozen 4
      go_wp2_with fail
      clear xs0 xsz0 xs1 xsz1 xs2 xsz2 xf0 xfz0 xf1 xfz1 xf2 xfz2 xf3 xfz3 xf4 xfz4
      have xl := Box.new 36 V2 [.int .u64 (s.data : Int), .int .i64 s.cut, .string s.mask]
      have ne_xl_xs : V2.heap.size ≠ W.heap.size := Nat.ne_of_gt xs.lt
      have ne_xl_xf : V2.heap.size ≠ V1.heap.size := Nat.ne_of_gt xf.lt
      have le_xl : W.heap.size ≤ V2.heap.size := hB.size
      replace xs := xs.alloc (.cells #[.int .u64 (s.data : Int), .int .i64 s.cut, .string s.mask] 36)
      replace xf := xf.alloc (.cells #[.int .u64 (s.data : Int), .int .i64 s.cut, .string s.mask] 36)
      replace hB := hB.alloc hB.size (.cells #[.int .u64 (s.data : Int), .int .i64 s.cut, .string s.mask] 36)
      have xs0 := xs.cell 0 rfl
      have xsz0 := xs.frozen 0
      have xs1 := xs.cell 1 rfl
      have xsz1 := xs.frozen 1
      have xs2 := xs.cell 2 rfl
      have xsz2 := xs.frozen 2
      have xf0 := xf.cell 0 rfl
      have xfz0 := xf.frozen 0
      have xf1 := xf.cell 1 rfl
      have xfz1 := xf.frozen 1
      have xf2 := xf.cell 2 rfl
      have xfz2 := xf.frozen 2
      have xf3 := xf.cell 3 rfl
      have xfz3 := xf.frozen 3
      have xf4 := xf.cell 4 rfl
      have xfz4 := xf.frozen 4
      have xl0 := xl.cell 0 rfl
      have xlz0 := xl.frozen 0
      have xl1 := xl.cell 1 rfl
      have xlz1 := xl.frozen 1
      have xl2 := xl.cell 2 rfl
      have xlz2 := xl.frozen 2
      have h1 : RowsAt 3 stpV (V2.alloc (.cells #[.int .u64 (s.data : Int), .int .i64 s.cut, .string s.mask] 36)) (some ⟨V2.heap.size, 0, none⟩) [s] := RowsAt.lit (cv := stpV) (n := 3) (by decide) (fun _ => rfl) _ 36 [s]
      refine (TB2.out _ _ h1).mono ?_
      rintro e V3 ⟨rfl, hk⟩
      clear xs0 xsz0 xs1 xsz1 xs2 xsz2 xf0 xfz0 xf1 xfz1 xf2 xfz2 xf3 xfz3 xf4 xfz4 xl0 xlz0 xl1 xlz1 xl2 xlz2
      replace hB := below_seq hB hk
      replace xs := xs.seq hk
      replace xf := xf.seq hk
      replace xl := xl.seq hk
      clear hk
      have xs0 := xs.cell 0 rfl
      have xsz0 := xs.frozen 0
      have xs1 := xs.cell 1 rfl
      have xsz1 := xs.frozen 1
      have xs2 := xs.cell 2 rfl
      have xsz2 := xs.frozen 2
      have xf0 := xf.cell 0 rfl
      have xfz0 := xf.frozen 0
      have xf1 := xf.cell 1 rfl
      have xfz1 := xf.frozen 1
      have xf2 := xf.cell 2 rfl
      have xfz2 := xf.frozen 2
      have xf3 := xf.cell 3 rfl
      have xfz3 := xf.frozen 3
      have xf4 := xf.cell 4 rfl
      have xfz4 := xf.frozen 4
      have xl0 := xl.cell 0 rfl
      have xlz0 := xl.frozen 0
      have xl1 := xl.cell 1 rfl
      have xlz1 := xl.frozen 1
      have xl2 := xl.cell 2 rfl
      have xlz2 := xl.frozen 2
      clear h1
      go_wp2_with fail
      refine (shown12 _).mono ?_
      rintro e V4 ⟨rfl, hk⟩
      clear xs0 xsz0 xs1 xsz1 xs2 xsz2 xf0 xfz0 xf1 xfz1 xf2 xfz2 xf3 xfz3 xf4 xfz4 xl0 xlz0 xl1 xlz1 xl2 xlz2
      replace hB := below_seq hB hk
      replace xs := xs.seq hk
      replace xf := xf.seq hk
      replace xl := xl.seq hk
      clear hk
      have xs0 := xs.cell 0 rfl
      have xsz0 := xs.frozen 0
      have xs1 := xs.cell 1 rfl
      have xsz1 := xs.frozen 1
      have xs2 := xs.cell 2 rfl
      have xsz2 := xs.frozen 2
      have xf0 := xf.cell 0 rfl
      have xfz0 := xf.frozen 0
      have xf1 := xf.cell 1 rfl
      have xfz1 := xf.frozen 1
      have xf2 := xf.cell 2 rfl
      have xfz2 := xf.frozen 2
      have xf3 := xf.cell 3 rfl
      have xfz3 := xf.frozen 3
      have xf4 := xf.cell 4 rfl
      have xfz4 := xf.frozen 4
      have xl0 := xl.cell 0 rfl
      have xlz0 := xl.frozen 0
      have xl1 := xl.cell 1 rfl
      have xlz1 := xl.frozen 1
      have xl2 := xl.cell 2 rfl
      have xlz2 := xl.frozen 2
      go_wp2_with fail
      clear xs0 xsz0 xs1 xsz1 xs2 xsz2 xf0 xfz0 xf1 xfz1 xf2 xfz2 xf3 xfz3 xf4 xfz4 xl0 xlz0 xl1 xlz1 xl2 xlz2
      replace hB := hB.drew
      replace xs := xs.drew
      replace xf := xf.drew
      replace xl := xl.drew
      refine wp_region_held_drew (S := fun w' => w'.cell? ⟨V1.heap.size, 0, none⟩ = some (.string F.b0) ∧ w'.cell? ⟨V1.heap.size, 1, none⟩ = some (.string F.b1) ∧ w'.cell? ⟨V1.heap.size, 2, none⟩ = some (.int .i64 F.e0) ∧ w'.cell? ⟨V1.heap.size, 3, none⟩ = some (.int .i64 F.e1) ∧ w'.cell? ⟨V1.heap.size, 4, none⟩ = some (.int .i64 F.lim) ∧ w'.cell? ⟨W.heap.size, 0, none⟩ = some (.int .u64 (s.data : Int)) ∧ w'.cell? ⟨W.heap.size, 1, none⟩ = some (.int .i64 s.cut) ∧ w'.cell? ⟨W.heap.size, 2, none⟩ = some (.string s.mask)) (by kernel_rfl) ?_ (fun hHeld => ?_)
      · exact ⟨xf.cell 0 rfl, xf.cell 1 rfl, xf.cell 2 rfl, xf.cell 3 rfl, xf.cell 4 rfl, xs.cell 0 rfl, xs.cell 1 rfl, xs.cell 2 rfl⟩
      generalize V4.drew = V5 at *
      refine wpAnyH_take (i := 0) (v := ?_) rfl (by kernel_rfl) (by kernel_rfl) (by kernel_rfl) (fun _ _ _ h => h) (Or.inl ⟨by rfl, ?_⟩) (by assumption) ?_
      rotate_left
      · intro w hSw; (try dsimp only at hSw); go_simp; try with_reducible rfl
      try simp only [Act.put, List.getElem_toArray, List.getElem_cons_zero, List.getElem_cons_succ, List.setIfInBounds_toArray, List.set_cons_zero, List.set_cons_succ]
      refine wpAnyH_take (i := 1) (v := ?_) rfl (by kernel_rfl) (by kernel_rfl) (by kernel_rfl) (fun _ _ _ h => h) (Or.inl ⟨by rfl, ?_⟩) (by assumption) ?_
      rotate_left
      · intro w hSw; (try dsimp only at hSw); go_simp; try with_reducible rfl
      try simp only [Act.put, List.getElem_toArray, List.getElem_cons_zero, List.getElem_cons_succ, List.setIfInBounds_toArray, List.set_cons_zero, List.set_cons_succ]
      refine wpAnyH_take (i := 3) (v := ?_) rfl (by kernel_rfl) (by kernel_rfl) (by kernel_rfl) (fun _ _ _ h => h) (Or.inl ⟨by rfl, ?_⟩) (by assumption) ?_
      rotate_left
      · intro w hSw; (try dsimp only at hSw); go_simp; try with_reducible rfl
      try simp only [Act.put, List.getElem_toArray, List.getElem_cons_zero, List.getElem_cons_succ, List.setIfInBounds_toArray, List.set_cons_zero, List.set_cons_succ]
      refine wpAnyH_ready (rs := [2, 5]) (by kernel_rfl) (by simp) ?_
      refine AllReadyH.cons rfl (fun K hK => ?_) (AllReadyH.cons rfl (fun K hK => ?_) (AllReadyH.nil))
      · have xs0 := xs.cell 0 rfl
        have xsz0 := xs.frozen 0
        have xs1 := xs.cell 1 rfl
        have xsz1 := xs.frozen 1
        have xs2 := xs.cell 2 rfl
        have xsz2 := xs.frozen 2
        have xf0 := xf.cell 0 rfl
        have xfz0 := xf.frozen 0
        have xf1 := xf.cell 1 rfl
        have xfz1 := xf.frozen 1
        have xf2 := xf.cell 2 rfl
        have xfz2 := xf.frozen 2
        have xf3 := xf.cell 3 rfl
        have xfz3 := xf.frozen 3
        have xf4 := xf.cell 4 rfl
        have xfz4 := xf.frozen 4
        have xl0 := xl.cell 0 rfl
        have xlz0 := xl.frozen 0
        have xl1 := xl.cell 1 rfl
        have xlz1 := xl.frozen 1
        have xl2 := xl.cell 2 rfl
        have xlz2 := xl.frozen 2
        go_simp
        refine (TRu.out _ (hlh.out.seq hB)).mono ?_
        rintro e V6 ⟨rfl, hk⟩
        clear xs0 xsz0 xs1 xsz1 xs2 xsz2 xf0 xfz0 xf1 xfz1 xf2 xfz2 xf3 xfz3 xf4 xfz4 xl0 xlz0 xl1 xlz1 xl2 xlz2
        replace hB := below_seq hB hk
        replace xs := xs.seq hk
        replace xf := xf.seq hk
        replace xl := xl.seq hk
        clear hk
        have xs0 := xs.cell 0 rfl
        have xsz0 := xs.frozen 0
        have xs1 := xs.cell 1 rfl
        have xsz1 := xs.frozen 1
        have xs2 := xs.cell 2 rfl
        have xsz2 := xs.frozen 2
        have xf0 := xf.cell 0 rfl
        have xfz0 := xf.frozen 0
        have xf1 := xf.cell 1 rfl
        have xfz1 := xf.frozen 1
        have xf2 := xf.cell 2 rfl
        have xfz2 := xf.frozen 2
        have xf3 := xf.cell 3 rfl
        have xfz3 := xf.frozen 3
        have xf4 := xf.cell 4 rfl
        have xfz4 := xf.frozen 4
        have xl0 := xl.cell 0 rfl
        have xlz0 := xl.frozen 0
        have xl1 := xl.cell 1 rfl
        have xlz1 := xl.frozen 1
        have xl2 := xl.cell 2 rfl
        have xlz2 := xl.frozen 2
        try go_wp2_with fail
        clear xs0 xsz0 xs1 xsz1 xs2 xsz2 xf0 xfz0 xf1 xfz1 xf2 xfz2 xf3 xfz3 xf4 xfz4 xl0 xlz0 xl1 xlz1 xl2 xlz2
        clear hHeld
        refine hK.out _ _ ?_ (fun hHeld => ?_)
        · exact ⟨xf.cell 0 rfl, xf.cell 1 rfl, xf.cell 2 rfl, xf.cell 3 rfl, xf.cell 4 rfl, xs.cell 0 rfl, xs.cell 1 rfl, xs.cell 2 rfl⟩
        clear hK K
        try simp only [Act.put, List.getElem_toArray, List.getElem_cons_zero, List.getElem_cons_succ, List.setIfInBounds_toArray, List.set_cons_zero, List.set_cons_succ]
        refine wpAnyH_ready (rs := [4, 5]) (by kernel_rfl) (by simp) ?_
        refine AllReadyH.cons rfl (fun K hK => ?_) (AllReadyH.cons rfl (fun K hK => ?_) (AllReadyH.nil))
        · have xs0 := xs.cell 0 rfl
          have xsz0 := xs.frozen 0
          have xs1 := xs.cell 1 rfl
          have xsz1 := xs.frozen 1
          have xs2 := xs.cell 2 rfl
          have xsz2 := xs.frozen 2
          have xf0 := xf.cell 0 rfl
          have xfz0 := xf.frozen 0
          have xf1 := xf.cell 1 rfl
          have xfz1 := xf.frozen 1
          have xf2 := xf.cell 2 rfl
          have xfz2 := xf.frozen 2
          have xf3 := xf.cell 3 rfl
          have xfz3 := xf.frozen 3
          have xf4 := xf.cell 4 rfl
          have xfz4 := xf.frozen 4
          have xl0 := xl.cell 0 rfl
          have xlz0 := xl.frozen 0
          have xl1 := xl.cell 1 rfl
          have xlz1 := xl.frozen 1
          have xl2 := xl.cell 2 rfl
          have xlz2 := xl.frozen 2
          go_simp
          refine (TP.out _).mono ?_
          rintro e V7 ⟨rfl, hk⟩
          clear xs0 xsz0 xs1 xsz1 xs2 xsz2 xf0 xfz0 xf1 xfz1 xf2 xfz2 xf3 xfz3 xf4 xfz4 xl0 xlz0 xl1 xlz1 xl2 xlz2
          replace hB := below_seq hB hk
          replace xs := xs.seq hk
          replace xf := xf.seq hk
          replace xl := xl.seq hk
          clear hk
          have xs0 := xs.cell 0 rfl
          have xsz0 := xs.frozen 0
          have xs1 := xs.cell 1 rfl
          have xsz1 := xs.frozen 1
          have xs2 := xs.cell 2 rfl
          have xsz2 := xs.frozen 2
          have xf0 := xf.cell 0 rfl
          have xfz0 := xf.frozen 0
          have xf1 := xf.cell 1 rfl
          have xfz1 := xf.frozen 1
          have xf2 := xf.cell 2 rfl
          have xfz2 := xf.frozen 2
          have xf3 := xf.cell 3 rfl
          have xfz3 := xf.frozen 3
          have xf4 := xf.cell 4 rfl
          have xfz4 := xf.frozen 4
          have xl0 := xl.cell 0 rfl
          have xlz0 := xl.frozen 0
          have xl1 := xl.cell 1 rfl
          have xlz1 := xl.frozen 1
          have xl2 := xl.cell 2 rfl
          have xlz2 := xl.frozen 2
          try go_wp2_with fail
          clear xs0 xsz0 xs1 xsz1 xs2 xsz2 xf0 xfz0 xf1 xfz1 xf2 xfz2 xf3 xfz3 xf4 xfz4 xl0 xlz0 xl1 xlz1 xl2 xlz2
          clear hHeld
          refine hK.out _ _ ?_ (fun hHeld => ?_)
          · exact ⟨xf.cell 0 rfl, xf.cell 1 rfl, xf.cell 2 rfl, xf.cell 3 rfl, xf.cell 4 rfl, xs.cell 0 rfl, xs.cell 1 rfl, xs.cell 2 rfl⟩
          clear hK K
          try simp only [Act.put, List.getElem_toArray, List.getElem_cons_zero, List.getElem_cons_succ, List.setIfInBounds_toArray, List.set_cons_zero, List.set_cons_succ]
          refine wpAnyH_ready (rs := [5]) (by kernel_rfl) (by simp) ?_
          refine AllReadyH.cons rfl (fun K hK => ?_) (AllReadyH.nil)
          have xs0 := xs.cell 0 rfl
          have xsz0 := xs.frozen 0
          have xs1 := xs.cell 1 rfl
          have xsz1 := xs.frozen 1
          have xs2 := xs.cell 2 rfl
          have xsz2 := xs.frozen 2
          have xf0 := xf.cell 0 rfl
          have xfz0 := xf.frozen 0
          have xf1 := xf.cell 1 rfl
          have xfz1 := xf.frozen 1
          have xf2 := xf.cell 2 rfl
          have xfz2 := xf.frozen 2
          have xf3 := xf.cell 3 rfl
          have xfz3 := xf.frozen 3
          have xf4 := xf.cell 4 rfl
          have xfz4 := xf.frozen 4
          have xl0 := xl.cell 0 rfl
          have xlz0 := xl.frozen 0
          have xl1 := xl.cell 1 rfl
          have xlz1 := xl.frozen 1
          have xl2 := xl.cell 2 rfl
          have xlz2 := xl.frozen 2
          go_simp
          try go_wp2_with fail
          clear xs0 xsz0 xs1 xsz1 xs2 xsz2 xf0 xfz0 xf1 xfz1 xf2 xfz2 xf3 xfz3 xf4 xfz4 xl0 xlz0 xl1 xlz1 xl2 xlz2
          have xx := Box.new 33 V7 [.string ⟨#[]⟩, .string ⟨#[]⟩, .int .i64 0, .int .i64 0, .int .i64 0, .int .i64 0, .int .u64 0, .bool false, .int .u64 0]
          have ne_xx_xs : V7.heap.size ≠ W.heap.size := Nat.ne_of_gt xs.lt
          have ne_xx_xf : V7.heap.size ≠ V1.heap.size := Nat.ne_of_gt xf.lt
          have ne_xx_xl : V7.heap.size ≠ V2.heap.size := Nat.ne_of_gt xl.lt
          have le_xx : W.heap.size ≤ V7.heap.size := hB.size
          replace xs := xs.alloc (.cells #[.string ⟨#[]⟩, .string ⟨#[]⟩, .int .i64 0, .int .i64 0, .int .i64 0, .int .i64 0, .int .u64 0, .bool false, .int .u64 0] 33)
          replace xf := xf.alloc (.cells #[.string ⟨#[]⟩, .string ⟨#[]⟩, .int .i64 0, .int .i64 0, .int .i64 0, .int .i64 0, .int .u64 0, .bool false, .int .u64 0] 33)
          replace xl := xl.alloc (.cells #[.string ⟨#[]⟩, .string ⟨#[]⟩, .int .i64 0, .int .i64 0, .int .i64 0, .int .i64 0, .int .u64 0, .bool false, .int .u64 0] 33)
          replace hB := hB.alloc hB.size (.cells #[.string ⟨#[]⟩, .string ⟨#[]⟩, .int .i64 0, .int .i64 0, .int .i64 0, .int .i64 0, .int .u64 0, .bool false, .int .u64 0] 33)
          have xs0 := xs.cell 0 rfl
          have xsz0 := xs.frozen 0
          have xs1 := xs.cell 1 rfl
          have xsz1 := xs.frozen 1
          have xs2 := xs.cell 2 rfl
          have xsz2 := xs.frozen 2
          have xf0 := xf.cell 0 rfl
          have xfz0 := xf.frozen 0
          have xf1 := xf.cell 1 rfl
          have xfz1 := xf.frozen 1
          have xf2 := xf.cell 2 rfl
          have xfz2 := xf.frozen 2
          have xf3 := xf.cell 3 rfl
          have xfz3 := xf.frozen 3
          have xf4 := xf.cell 4 rfl
          have xfz4 := xf.frozen 4
          have xl0 := xl.cell 0 rfl
          have xlz0 := xl.frozen 0
          have xl1 := xl.cell 1 rfl
          have xlz1 := xl.frozen 1
          have xl2 := xl.cell 2 rfl
          have xlz2 := xl.frozen 2
          have xx0 := xx.cell 0 rfl
          have xxz0 := xx.frozen 0
          have xx1 := xx.cell 1 rfl
          have xxz1 := xx.frozen 1
          have xx2 := xx.cell 2 rfl
          have xxz2 := xx.frozen 2
          have xx3 := xx.cell 3 rfl
          have xxz3 := xx.frozen 3
          have xx4 := xx.cell 4 rfl
          have xxz4 := xx.frozen 4
          have xx5 := xx.cell 5 rfl
          have xxz5 := xx.frozen 5
          have xx6 := xx.cell 6 rfl
          have xxz6 := xx.frozen 6
          have xx7 := xx.cell 7 rfl
          have xxz7 := xx.frozen 7
          have xx8 := xx.cell 8 rfl
          have xxz8 := xx.frozen 8
          generalize (V7.alloc (.cells #[.string ⟨#[]⟩, .string ⟨#[]⟩, .int .i64 0, .int .i64 0, .int .i64 0, .int .i64 0, .int .u64 0, .bool false, .int .u64 0] 33)) = V8 at *
          generalize V7.heap.size = g_xx at *
          clear xs0 xsz0 xs1 xsz1 xs2 xsz2 xf0 xfz0 xf1 xfz1 xf2 xfz2 xf3 xfz3 xf4 xfz4 xl0 xlz0 xl1 xlz1 xl2 xlz2 xx0 xxz0 xx1 xxz1 xx2 xxz2 xx3 xxz3 xx4 xxz4 xx5 xxz5 xx6 xxz6 xx7 xxz7 xx8 xxz8
          clear hHeld
          refine hK.out _ _ ?_ (fun hHeld => ?_)
          · exact ⟨xf.cell 0 rfl, xf.cell 1 rfl, xf.cell 2 rfl, xf.cell 3 rfl, xf.cell 4 rfl, xs.cell 0 rfl, xs.cell 1 rfl, xs.cell 2 rfl⟩
          clear hK K
          try simp only [Act.put, List.getElem_toArray, List.getElem_cons_zero, List.getElem_cons_succ, List.setIfInBounds_toArray, List.set_cons_zero, List.set_cons_succ]
          refine wpAnyH_ready (rs := [6]) (by kernel_rfl) (by simp) ?_
          refine AllReadyH.cons rfl (fun K hK => ?_) (AllReadyH.nil)
          have xs0 := xs.cell 0 rfl
          have xsz0 := xs.frozen 0
          have xs1 := xs.cell 1 rfl
          have xsz1 := xs.frozen 1
          have xs2 := xs.cell 2 rfl
          have xsz2 := xs.frozen 2
          have xf0 := xf.cell 0 rfl
          have xfz0 := xf.frozen 0
          have xf1 := xf.cell 1 rfl
          have xfz1 := xf.frozen 1
          have xf2 := xf.cell 2 rfl
          have xfz2 := xf.frozen 2
          have xf3 := xf.cell 3 rfl
          have xfz3 := xf.frozen 3
          have xf4 := xf.cell 4 rfl
          have xfz4 := xf.frozen 4
          have xl0 := xl.cell 0 rfl
          have xlz0 := xl.frozen 0
          have xl1 := xl.cell 1 rfl
          have xlz1 := xl.frozen 1
          have xl2 := xl.cell 2 rfl
          have xlz2 := xl.frozen 2
          have xx0 := xx.cell 0 rfl
          have xxz0 := xx.frozen 0
          have xx1 := xx.cell 1 rfl
          have xxz1 := xx.frozen 1
          have xx2 := xx.cell 2 rfl
          have xxz2 := xx.frozen 2
          have xx3 := xx.cell 3 rfl
          have xxz3 := xx.frozen 3
          have xx4 := xx.cell 4 rfl
          have xxz4 := xx.frozen 4
          have xx5 := xx.cell 5 rfl
          have xxz5 := xx.frozen 5
          have xx6 := xx.cell 6 rfl
          have xxz6 := xx.frozen 6
          have xx7 := xx.cell 7 rfl
          have xxz7 := xx.frozen 7
          have xx8 := xx.cell 8 rfl
          have xxz8 := xx.frozen 8
          go_simp
          try go_wp2_with fail
          clear xs0 xsz0 xs1 xsz1 xs2 xsz2 xf0 xfz0 xf1 xfz1 xf2 xfz2 xf3 xfz3 xf4 xfz4 xl0 xlz0 xl1 xlz1 xl2 xlz2 xx0 xxz0 xx1 xxz1 xx2 xxz2 xx3 xxz3 xx4 xxz4 xx5 xxz5 xx6 xxz6 xx7 xxz7 xx8 xxz8
          replace xs : Box 36 (((((((((V8.setCell ⟨g_xx, 0, none⟩ (.string x.f.b0)).setCell ⟨g_xx, 1, none⟩ (.string x.f.b1)).setCell ⟨g_xx, 2, none⟩ (.int .i64 x.f.e0)).setCell ⟨g_xx, 3, none⟩ (.int .i64 x.f.e1)).setCell ⟨g_xx, 4, none⟩ (.int .i64 x.f.lim)).setCell ⟨g_xx, 5, none⟩ (.int .i64 x.acked)).setCell ⟨g_xx, 6, none⟩ (.int .u64 (x.last : Int))).setCell ⟨g_xx, 7, none⟩ (.bool x.flying)).setCell ⟨g_xx, 8, none⟩ (.int .u64 (x.flight : Int))) (W.heap.size) [.int .u64 (s.data : Int), .int .i64 s.cut, .string s.mask] := (((((((((xs.other ne_xx_xs 0 (.string x.f.b0)).other ne_xx_xs 1 (.string x.f.b1)).other ne_xx_xs 2 (.int .i64 x.f.e0)).other ne_xx_xs 3 (.int .i64 x.f.e1)).other ne_xx_xs 4 (.int .i64 x.f.lim)).other ne_xx_xs 5 (.int .i64 x.acked)).other ne_xx_xs 6 (.int .u64 (x.last : Int))).other ne_xx_xs 7 (.bool x.flying)).other ne_xx_xs 8 (.int .u64 (x.flight : Int)))
          replace xf : Box 26 (((((((((V8.setCell ⟨g_xx, 0, none⟩ (.string x.f.b0)).setCell ⟨g_xx, 1, none⟩ (.string x.f.b1)).setCell ⟨g_xx, 2, none⟩ (.int .i64 x.f.e0)).setCell ⟨g_xx, 3, none⟩ (.int .i64 x.f.e1)).setCell ⟨g_xx, 4, none⟩ (.int .i64 x.f.lim)).setCell ⟨g_xx, 5, none⟩ (.int .i64 x.acked)).setCell ⟨g_xx, 6, none⟩ (.int .u64 (x.last : Int))).setCell ⟨g_xx, 7, none⟩ (.bool x.flying)).setCell ⟨g_xx, 8, none⟩ (.int .u64 (x.flight : Int))) (V1.heap.size) [.string F.b0, .string F.b1, .int .i64 F.e0, .int .i64 F.e1, .int .i64 F.lim] := (((((((((xf.other ne_xx_xf 0 (.string x.f.b0)).other ne_xx_xf 1 (.string x.f.b1)).other ne_xx_xf 2 (.int .i64 x.f.e0)).other ne_xx_xf 3 (.int .i64 x.f.e1)).other ne_xx_xf 4 (.int .i64 x.f.lim)).other ne_xx_xf 5 (.int .i64 x.acked)).other ne_xx_xf 6 (.int .u64 (x.last : Int))).other ne_xx_xf 7 (.bool x.flying)).other ne_xx_xf 8 (.int .u64 (x.flight : Int)))
          replace xl : Box 36 (((((((((V8.setCell ⟨g_xx, 0, none⟩ (.string x.f.b0)).setCell ⟨g_xx, 1, none⟩ (.string x.f.b1)).setCell ⟨g_xx, 2, none⟩ (.int .i64 x.f.e0)).setCell ⟨g_xx, 3, none⟩ (.int .i64 x.f.e1)).setCell ⟨g_xx, 4, none⟩ (.int .i64 x.f.lim)).setCell ⟨g_xx, 5, none⟩ (.int .i64 x.acked)).setCell ⟨g_xx, 6, none⟩ (.int .u64 (x.last : Int))).setCell ⟨g_xx, 7, none⟩ (.bool x.flying)).setCell ⟨g_xx, 8, none⟩ (.int .u64 (x.flight : Int))) (V2.heap.size) [.int .u64 (s.data : Int), .int .i64 s.cut, .string s.mask] := (((((((((xl.other ne_xx_xl 0 (.string x.f.b0)).other ne_xx_xl 1 (.string x.f.b1)).other ne_xx_xl 2 (.int .i64 x.f.e0)).other ne_xx_xl 3 (.int .i64 x.f.e1)).other ne_xx_xl 4 (.int .i64 x.f.lim)).other ne_xx_xl 5 (.int .i64 x.acked)).other ne_xx_xl 6 (.int .u64 (x.last : Int))).other ne_xx_xl 7 (.bool x.flying)).other ne_xx_xl 8 (.int .u64 (x.flight : Int)))
          replace xx : Box 33 (((((((((V8.setCell ⟨g_xx, 0, none⟩ (.string x.f.b0)).setCell ⟨g_xx, 1, none⟩ (.string x.f.b1)).setCell ⟨g_xx, 2, none⟩ (.int .i64 x.f.e0)).setCell ⟨g_xx, 3, none⟩ (.int .i64 x.f.e1)).setCell ⟨g_xx, 4, none⟩ (.int .i64 x.f.lim)).setCell ⟨g_xx, 5, none⟩ (.int .i64 x.acked)).setCell ⟨g_xx, 6, none⟩ (.int .u64 (x.last : Int))).setCell ⟨g_xx, 7, none⟩ (.bool x.flying)).setCell ⟨g_xx, 8, none⟩ (.int .u64 (x.flight : Int))) (g_xx) [.string x.f.b0, .string x.f.b1, .int .i64 x.f.e0, .int .i64 x.f.e1, .int .i64 x.f.lim, .int .i64 x.acked, .int .u64 (x.last : Int), .bool x.flying, .int .u64 (x.flight : Int)] := (((((((((xx.set 0 (.string x.f.b0)).set 1 (.string x.f.b1)).set 2 (.int .i64 x.f.e0)).set 3 (.int .i64 x.f.e1)).set 4 (.int .i64 x.f.lim)).set 5 (.int .i64 x.acked)).set 6 (.int .u64 (x.last : Int))).set 7 (.bool x.flying)).set 8 (.int .u64 (x.flight : Int)))
          replace hB : Below W.heap.size W (((((((((V8.setCell ⟨g_xx, 0, none⟩ (.string x.f.b0)).setCell ⟨g_xx, 1, none⟩ (.string x.f.b1)).setCell ⟨g_xx, 2, none⟩ (.int .i64 x.f.e0)).setCell ⟨g_xx, 3, none⟩ (.int .i64 x.f.e1)).setCell ⟨g_xx, 4, none⟩ (.int .i64 x.f.lim)).setCell ⟨g_xx, 5, none⟩ (.int .i64 x.acked)).setCell ⟨g_xx, 6, none⟩ (.int .u64 (x.last : Int))).setCell ⟨g_xx, 7, none⟩ (.bool x.flying)).setCell ⟨g_xx, 8, none⟩ (.int .u64 (x.flight : Int))) := (((((((((hB.setCell le_xx _).setCell le_xx _).setCell le_xx _).setCell le_xx _).setCell le_xx _).setCell le_xx _).setCell le_xx _).setCell le_xx _).setCell le_xx _)
          generalize (((((((((V8.setCell ⟨g_xx, 0, none⟩ (.string x.f.b0)).setCell ⟨g_xx, 1, none⟩ (.string x.f.b1)).setCell ⟨g_xx, 2, none⟩ (.int .i64 x.f.e0)).setCell ⟨g_xx, 3, none⟩ (.int .i64 x.f.e1)).setCell ⟨g_xx, 4, none⟩ (.int .i64 x.f.lim)).setCell ⟨g_xx, 5, none⟩ (.int .i64 x.acked)).setCell ⟨g_xx, 6, none⟩ (.int .u64 (x.last : Int))).setCell ⟨g_xx, 7, none⟩ (.bool x.flying)).setCell ⟨g_xx, 8, none⟩ (.int .u64 (x.flight : Int))) = V9 at *
          clear hHeld
          refine hK.out _ _ ?_ (fun hHeld => ?_)
          · exact ⟨xf.cell 0 rfl, xf.cell 1 rfl, xf.cell 2 rfl, xf.cell 3 rfl, xf.cell 4 rfl, xs.cell 0 rfl, xs.cell 1 rfl, xs.cell 2 rfl⟩
          clear hK K
          try simp only [Act.put, List.getElem_toArray, List.getElem_cons_zero, List.getElem_cons_succ, List.setIfInBounds_toArray, List.set_cons_zero, List.set_cons_succ]
          refine wpAnyH_done (by kernel_rfl) ?_ _
          clear hHeld
          have xs0 := xs.cell 0 rfl
          have xsz0 := xs.frozen 0
          have xs1 := xs.cell 1 rfl
          have xsz1 := xs.frozen 1
          have xs2 := xs.cell 2 rfl
          have xsz2 := xs.frozen 2
          have xf0 := xf.cell 0 rfl
          have xfz0 := xf.frozen 0
          have xf1 := xf.cell 1 rfl
          have xfz1 := xf.frozen 1
          have xf2 := xf.cell 2 rfl
          have xfz2 := xf.frozen 2
          have xf3 := xf.cell 3 rfl
          have xfz3 := xf.frozen 3
          have xf4 := xf.cell 4 rfl
          have xfz4 := xf.frozen 4
          have xl0 := xl.cell 0 rfl
          have xlz0 := xl.frozen 0
          have xl1 := xl.cell 1 rfl
          have xlz1 := xl.frozen 1
          have xl2 := xl.cell 2 rfl
          have xlz2 := xl.frozen 2
          have xx0 := xx.cell 0 rfl
          have xxz0 := xx.frozen 0
          have xx1 := xx.cell 1 rfl
          have xxz1 := xx.frozen 1
          have xx2 := xx.cell 2 rfl
          have xxz2 := xx.frozen 2
          have xx3 := xx.cell 3 rfl
          have xxz3 := xx.frozen 3
          have xx4 := xx.cell 4 rfl
          have xxz4 := xx.frozen 4
          have xx5 := xx.cell 5 rfl
          have xxz5 := xx.frozen 5
          have xx6 := xx.cell 6 rfl
          have xxz6 := xx.frozen 6
          have xx7 := xx.cell 7 rfl
          have xxz7 := xx.frozen 7
          have xx8 := xx.cell 8 rfl
          have xxz8 := xx.frozen 8
          go_wp2_with fail
          refine (TPu.out _).mono ?_
          rintro e V10 ⟨rfl, hk⟩
          clear xs0 xsz0 xs1 xsz1 xs2 xsz2 xf0 xfz0 xf1 xfz1 xf2 xfz2 xf3 xfz3 xf4 xfz4 xl0 xlz0 xl1 xlz1 xl2 xlz2 xx0 xxz0 xx1 xxz1 xx2 xxz2 xx3 xxz3 xx4 xxz4 xx5 xxz5 xx6 xxz6 xx7 xxz7 xx8 xxz8
          replace hB := below_seq hB hk
          replace xs := xs.seq hk
          replace xf := xf.seq hk
          replace xl := xl.seq hk
          replace xx := xx.seq hk
          clear hk
          have xg := Box.new 26 V10 [.string g.b0, .string g.b1, .int .i64 g.e0, .int .i64 g.e1, .int .i64 g.lim]
          have ne_xg_xs : V10.heap.size ≠ W.heap.size := Nat.ne_of_gt xs.lt
          have ne_xg_xf : V10.heap.size ≠ V1.heap.size := Nat.ne_of_gt xf.lt
          have ne_xg_xl : V10.heap.size ≠ V2.heap.size := Nat.ne_of_gt xl.lt
          have ne_xg_xx : V10.heap.size ≠ g_xx := Nat.ne_of_gt xx.lt
          have le_xg : W.heap.size ≤ V10.heap.size := hB.size
          replace xs := xs.alloc (.cells #[.string g.b0, .string g.b1, .int .i64 g.e0, .int .i64 g.e1, .int .i64 g.lim] 26)
          replace xf := xf.alloc (.cells #[.string g.b0, .string g.b1, .int .i64 g.e0, .int .i64 g.e1, .int .i64 g.lim] 26)
          replace xl := xl.alloc (.cells #[.string g.b0, .string g.b1, .int .i64 g.e0, .int .i64 g.e1, .int .i64 g.lim] 26)
          replace xx := xx.alloc (.cells #[.string g.b0, .string g.b1, .int .i64 g.e0, .int .i64 g.e1, .int .i64 g.lim] 26)
          replace hB := hB.alloc hB.size (.cells #[.string g.b0, .string g.b1, .int .i64 g.e0, .int .i64 g.e1, .int .i64 g.lim] 26)
          have xs0 := xs.cell 0 rfl
          have xsz0 := xs.frozen 0
          have xs1 := xs.cell 1 rfl
          have xsz1 := xs.frozen 1
          have xs2 := xs.cell 2 rfl
          have xsz2 := xs.frozen 2
          have xf0 := xf.cell 0 rfl
          have xfz0 := xf.frozen 0
          have xf1 := xf.cell 1 rfl
          have xfz1 := xf.frozen 1
          have xf2 := xf.cell 2 rfl
          have xfz2 := xf.frozen 2
          have xf3 := xf.cell 3 rfl
          have xfz3 := xf.frozen 3
          have xf4 := xf.cell 4 rfl
          have xfz4 := xf.frozen 4
          have xl0 := xl.cell 0 rfl
          have xlz0 := xl.frozen 0
          have xl1 := xl.cell 1 rfl
          have xlz1 := xl.frozen 1
          have xl2 := xl.cell 2 rfl
          have xlz2 := xl.frozen 2
          have xx0 := xx.cell 0 rfl
          have xxz0 := xx.frozen 0
          have xx1 := xx.cell 1 rfl
          have xxz1 := xx.frozen 1
          have xx2 := xx.cell 2 rfl
          have xxz2 := xx.frozen 2
          have xx3 := xx.cell 3 rfl
          have xxz3 := xx.frozen 3
          have xx4 := xx.cell 4 rfl
          have xxz4 := xx.frozen 4
          have xx5 := xx.cell 5 rfl
          have xxz5 := xx.frozen 5
          have xx6 := xx.cell 6 rfl
          have xxz6 := xx.frozen 6
          have xx7 := xx.cell 7 rfl
          have xxz7 := xx.frozen 7
          have xx8 := xx.cell 8 rfl
          have xxz8 := xx.frozen 8
          have xg0 := xg.cell 0 rfl
          have xgz0 := xg.frozen 0
          have xg1 := xg.cell 1 rfl
          have xgz1 := xg.frozen 1
          have xg2 := xg.cell 2 rfl
          have xgz2 := xg.frozen 2
          have xg3 := xg.cell 3 rfl
          have xgz3 := xg.frozen 3
          have xg4 := xg.cell 4 rfl
          have xgz4 := xg.frozen 4
          go_wp2_with fail
          refine (TSg.out _).mono ?_
          rintro e V11 ⟨rfl, hk⟩
          clear xs0 xsz0 xs1 xsz1 xs2 xsz2 xf0 xfz0 xf1 xfz1 xf2 xfz2 xf3 xfz3 xf4 xfz4 xl0 xlz0 xl1 xlz1 xl2 xlz2 xx0 xxz0 xx1 xxz1 xx2 xxz2 xx3 xxz3 xx4 xxz4 xx5 xxz5 xx6 xxz6 xx7 xxz7 xx8 xxz8 xg0 xgz0 xg1 xgz1 xg2 xgz2 xg3 xgz3 xg4 xgz4
          replace hB := below_seq hB hk
          replace xs := xs.seq hk
          replace xf := xf.seq hk
          replace xl := xl.seq hk
          replace xx := xx.seq hk
          replace xg := xg.seq hk
          clear hk
          have xs0 := xs.cell 0 rfl
          have xsz0 := xs.frozen 0
          have xs1 := xs.cell 1 rfl
          have xsz1 := xs.frozen 1
          have xs2 := xs.cell 2 rfl
          have xsz2 := xs.frozen 2
          have xf0 := xf.cell 0 rfl
          have xfz0 := xf.frozen 0
          have xf1 := xf.cell 1 rfl
          have xfz1 := xf.frozen 1
          have xf2 := xf.cell 2 rfl
          have xfz2 := xf.frozen 2
          have xf3 := xf.cell 3 rfl
          have xfz3 := xf.frozen 3
          have xf4 := xf.cell 4 rfl
          have xfz4 := xf.frozen 4
          have xl0 := xl.cell 0 rfl
          have xlz0 := xl.frozen 0
          have xl1 := xl.cell 1 rfl
          have xlz1 := xl.frozen 1
          have xl2 := xl.cell 2 rfl
          have xlz2 := xl.frozen 2
          have xx0 := xx.cell 0 rfl
          have xxz0 := xx.frozen 0
          have xx1 := xx.cell 1 rfl
          have xxz1 := xx.frozen 1
          have xx2 := xx.cell 2 rfl
          have xxz2 := xx.frozen 2
          have xx3 := xx.cell 3 rfl
          have xxz3 := xx.frozen 3
          have xx4 := xx.cell 4 rfl
          have xxz4 := xx.frozen 4
          have xx5 := xx.cell 5 rfl
          have xxz5 := xx.frozen 5
          have xx6 := xx.cell 6 rfl
          have xxz6 := xx.frozen 6
          have xx7 := xx.cell 7 rfl
          have xxz7 := xx.frozen 7
          have xx8 := xx.cell 8 rfl
          have xxz8 := xx.frozen 8
          have xg0 := xg.cell 0 rfl
          have xgz0 := xg.frozen 0
          have xg1 := xg.cell 1 rfl
          have xgz1 := xg.frozen 1
          have xg2 := xg.cell 2 rfl
          have xgz2 := xg.frozen 2
          have xg3 := xg.cell 3 rfl
          have xgz3 := xg.frozen 3
          have xg4 := xg.cell 4 rfl
          have xgz4 := xg.frozen 4
          go_wp2
          go_ret
          exact ⟨rfl, hB⟩
        · have xs0 := xs.cell 0 rfl
          have xsz0 := xs.frozen 0
          have xs1 := xs.cell 1 rfl
          have xsz1 := xs.frozen 1
          have xs2 := xs.cell 2 rfl
          have xsz2 := xs.frozen 2
          have xf0 := xf.cell 0 rfl
          have xfz0 := xf.frozen 0
          have xf1 := xf.cell 1 rfl
          have xfz1 := xf.frozen 1
          have xf2 := xf.cell 2 rfl
          have xfz2 := xf.frozen 2
          have xf3 := xf.cell 3 rfl
          have xfz3 := xf.frozen 3
          have xf4 := xf.cell 4 rfl
          have xfz4 := xf.frozen 4
          have xl0 := xl.cell 0 rfl
          have xlz0 := xl.frozen 0
          have xl1 := xl.cell 1 rfl
          have xlz1 := xl.frozen 1
          have xl2 := xl.cell 2 rfl
          have xlz2 := xl.frozen 2
          go_simp
          try go_wp2_with fail
          clear xs0 xsz0 xs1 xsz1 xs2 xsz2 xf0 xfz0 xf1 xfz1 xf2 xfz2 xf3 xfz3 xf4 xfz4 xl0 xlz0 xl1 xlz1 xl2 xlz2
          have xx := Box.new 33 V6 [.string ⟨#[]⟩, .string ⟨#[]⟩, .int .i64 0, .int .i64 0, .int .i64 0, .int .i64 0, .int .u64 0, .bool false, .int .u64 0]
          have ne_xx_xs : V6.heap.size ≠ W.heap.size := Nat.ne_of_gt xs.lt
          have ne_xx_xf : V6.heap.size ≠ V1.heap.size := Nat.ne_of_gt xf.lt
          have ne_xx_xl : V6.heap.size ≠ V2.heap.size := Nat.ne_of_gt xl.lt
          have le_xx : W.heap.size ≤ V6.heap.size := hB.size
          replace xs := xs.alloc (.cells #[.string ⟨#[]⟩, .string ⟨#[]⟩, .int .i64 0, .int .i64 0, .int .i64 0, .int .i64 0, .int .u64 0, .bool false, .int .u64 0] 33)
          replace xf := xf.alloc (.cells #[.string ⟨#[]⟩, .string ⟨#[]⟩, .int .i64 0, .int .i64 0, .int .i64 0, .int .i64 0, .int .u64 0, .bool false, .int .u64 0] 33)
          replace xl := xl.alloc (.cells #[.string ⟨#[]⟩, .string ⟨#[]⟩, .int .i64 0, .int .i64 0, .int .i64 0, .int .i64 0, .int .u64 0, .bool false, .int .u64 0] 33)
          replace hB := hB.alloc hB.size (.cells #[.string ⟨#[]⟩, .string ⟨#[]⟩, .int .i64 0, .int .i64 0, .int .i64 0, .int .i64 0, .int .u64 0, .bool false, .int .u64 0] 33)
          have xs0 := xs.cell 0 rfl
          have xsz0 := xs.frozen 0
          have xs1 := xs.cell 1 rfl
          have xsz1 := xs.frozen 1
          have xs2 := xs.cell 2 rfl
          have xsz2 := xs.frozen 2
          have xf0 := xf.cell 0 rfl
          have xfz0 := xf.frozen 0
          have xf1 := xf.cell 1 rfl
          have xfz1 := xf.frozen 1
          have xf2 := xf.cell 2 rfl
          have xfz2 := xf.frozen 2
          have xf3 := xf.cell 3 rfl
          have xfz3 := xf.frozen 3
          have xf4 := xf.cell 4 rfl
          have xfz4 := xf.frozen 4
          have xl0 := xl.cell 0 rfl
          have xlz0 := xl.frozen 0
          have xl1 := xl.cell 1 rfl
          have xlz1 := xl.frozen 1
          have xl2 := xl.cell 2 rfl
          have xlz2 := xl.frozen 2
          have xx0 := xx.cell 0 rfl
          have xxz0 := xx.frozen 0
          have xx1 := xx.cell 1 rfl
          have xxz1 := xx.frozen 1
          have xx2 := xx.cell 2 rfl
          have xxz2 := xx.frozen 2
          have xx3 := xx.cell 3 rfl
          have xxz3 := xx.frozen 3
          have xx4 := xx.cell 4 rfl
          have xxz4 := xx.frozen 4
          have xx5 := xx.cell 5 rfl
          have xxz5 := xx.frozen 5
          have xx6 := xx.cell 6 rfl
          have xxz6 := xx.frozen 6
          have xx7 := xx.cell 7 rfl
          have xxz7 := xx.frozen 7
          have xx8 := xx.cell 8 rfl
          have xxz8 := xx.frozen 8
          generalize (V6.alloc (.cells #[.string ⟨#[]⟩, .string ⟨#[]⟩, .int .i64 0, .int .i64 0, .int .i64 0, .int .i64 0, .int .u64 0, .bool false, .int .u64 0] 33)) = V7 at *
          generalize V6.heap.size = g_xx at *
          clear xs0 xsz0 xs1 xsz1 xs2 xsz2 xf0 xfz0 xf1 xfz1 xf2 xfz2 xf3 xfz3 xf4 xfz4 xl0 xlz0 xl1 xlz1 xl2 xlz2 xx0 xxz0 xx1 xxz1 xx2 xxz2 xx3 xxz3 xx4 xxz4 xx5 xxz5 xx6 xxz6 xx7 xxz7 xx8 xxz8
          clear hHeld
          refine hK.out _ _ ?_ (fun hHeld => ?_)
          · exact ⟨xf.cell 0 rfl, xf.cell 1 rfl, xf.cell 2 rfl, xf.cell 3 rfl, xf.cell 4 rfl, xs.cell 0 rfl, xs.cell 1 rfl, xs.cell 2 rfl⟩
          clear hK K
          try simp only [Act.put, List.getElem_toArray, List.getElem_cons_zero, List.getElem_cons_succ, List.setIfInBounds_toArray, List.set_cons_zero, List.set_cons_succ]
          refine wpAnyH_ready (rs := [4]) (by kernel_rfl) (by simp) ?_
          refine AllReadyH.cons rfl (fun K hK => ?_) (AllReadyH.nil)
          have xs0 := xs.cell 0 rfl
          have xsz0 := xs.frozen 0
          have xs1 := xs.cell 1 rfl
          have xsz1 := xs.frozen 1
          have xs2 := xs.cell 2 rfl
          have xsz2 := xs.frozen 2
          have xf0 := xf.cell 0 rfl
          have xfz0 := xf.frozen 0
          have xf1 := xf.cell 1 rfl
          have xfz1 := xf.frozen 1
          have xf2 := xf.cell 2 rfl
          have xfz2 := xf.frozen 2
          have xf3 := xf.cell 3 rfl
          have xfz3 := xf.frozen 3
          have xf4 := xf.cell 4 rfl
          have xfz4 := xf.frozen 4
          have xl0 := xl.cell 0 rfl
          have xlz0 := xl.frozen 0
          have xl1 := xl.cell 1 rfl
          have xlz1 := xl.frozen 1
          have xl2 := xl.cell 2 rfl
          have xlz2 := xl.frozen 2
          have xx0 := xx.cell 0 rfl
          have xxz0 := xx.frozen 0
          have xx1 := xx.cell 1 rfl
          have xxz1 := xx.frozen 1
          have xx2 := xx.cell 2 rfl
          have xxz2 := xx.frozen 2
          have xx3 := xx.cell 3 rfl
          have xxz3 := xx.frozen 3
          have xx4 := xx.cell 4 rfl
          have xxz4 := xx.frozen 4
          have xx5 := xx.cell 5 rfl
          have xxz5 := xx.frozen 5
          have xx6 := xx.cell 6 rfl
          have xxz6 := xx.frozen 6
          have xx7 := xx.cell 7 rfl
          have xxz7 := xx.frozen 7
          have xx8 := xx.cell 8 rfl
          have xxz8 := xx.frozen 8
          go_simp
          refine (TP.out _).mono ?_
          rintro e V8 ⟨rfl, hk⟩
          clear xs0 xsz0 xs1 xsz1 xs2 xsz2 xf0 xfz0 xf1 xfz1 xf2 xfz2 xf3 xfz3 xf4 xfz4 xl0 xlz0 xl1 xlz1 xl2 xlz2 xx0 xxz0 xx1 xxz1 xx2 xxz2 xx3 xxz3 xx4 xxz4 xx5 xxz5 xx6 xxz6 xx7 xxz7 xx8 xxz8
          replace hB := below_seq hB hk
          replace xs := xs.seq hk
          replace xf := xf.seq hk
          replace xl := xl.seq hk
          replace xx := xx.seq hk
          clear hk
          have xs0 := xs.cell 0 rfl
          have xsz0 := xs.frozen 0
          have xs1 := xs.cell 1 rfl
          have xsz1 := xs.frozen 1
          have xs2 := xs.cell 2 rfl
          have xsz2 := xs.frozen 2
          have xf0 := xf.cell 0 rfl
          have xfz0 := xf.frozen 0
          have xf1 := xf.cell 1 rfl
          have xfz1 := xf.frozen 1
          have xf2 := xf.cell 2 rfl
          have xfz2 := xf.frozen 2
          have xf3 := xf.cell 3 rfl
          have xfz3 := xf.frozen 3
          have xf4 := xf.cell 4 rfl
          have xfz4 := xf.frozen 4
          have xl0 := xl.cell 0 rfl
          have xlz0 := xl.frozen 0
          have xl1 := xl.cell 1 rfl
          have xlz1 := xl.frozen 1
          have xl2 := xl.cell 2 rfl
          have xlz2 := xl.frozen 2
          have xx0 := xx.cell 0 rfl
          have xxz0 := xx.frozen 0
          have xx1 := xx.cell 1 rfl
          have xxz1 := xx.frozen 1
          have xx2 := xx.cell 2 rfl
          have xxz2 := xx.frozen 2
          have xx3 := xx.cell 3 rfl
          have xxz3 := xx.frozen 3
          have xx4 := xx.cell 4 rfl
          have xxz4 := xx.frozen 4
          have xx5 := xx.cell 5 rfl
          have xxz5 := xx.frozen 5
          have xx6 := xx.cell 6 rfl
          have xxz6 := xx.frozen 6
          have xx7 := xx.cell 7 rfl
          have xxz7 := xx.frozen 7
          have xx8 := xx.cell 8 rfl
          have xxz8 := xx.frozen 8
          try go_wp2_with fail
          clear xs0 xsz0 xs1 xsz1 xs2 xsz2 xf0 xfz0 xf1 xfz1 xf2 xfz2 xf3 xfz3 xf4 xfz4 xl0 xlz0 xl1 xlz1 xl2 xlz2 xx0 xxz0 xx1 xxz1 xx2 xxz2 xx3 xxz3 xx4 xxz4 xx5 xxz5 xx6 xxz6 xx7 xxz7 xx8 xxz8
          clear hHeld
          refine hK.out _ _ ?_ (fun hHeld => ?_)
          · exact ⟨xf.cell 0 rfl, xf.cell 1 rfl, xf.cell 2 rfl, xf.cell 3 rfl, xf.cell 4 rfl, xs.cell 0 rfl, xs.cell 1 rfl, xs.cell 2 rfl⟩
          clear hK K
          try simp only [Act.put, List.getElem_toArray, List.getElem_cons_zero, List.getElem_cons_succ, List.setIfInBounds_toArray, List.set_cons_zero, List.set_cons_succ]
          refine wpAnyH_ready (rs := [6]) (by kernel_rfl) (by simp) ?_
          refine AllReadyH.cons rfl (fun K hK => ?_) (AllReadyH.nil)
          have xs0 := xs.cell 0 rfl
          have xsz0 := xs.frozen 0
          have xs1 := xs.cell 1 rfl
          have xsz1 := xs.frozen 1
          have xs2 := xs.cell 2 rfl
          have xsz2 := xs.frozen 2
          have xf0 := xf.cell 0 rfl
          have xfz0 := xf.frozen 0
          have xf1 := xf.cell 1 rfl
          have xfz1 := xf.frozen 1
          have xf2 := xf.cell 2 rfl
          have xfz2 := xf.frozen 2
          have xf3 := xf.cell 3 rfl
          have xfz3 := xf.frozen 3
          have xf4 := xf.cell 4 rfl
          have xfz4 := xf.frozen 4
          have xl0 := xl.cell 0 rfl
          have xlz0 := xl.frozen 0
          have xl1 := xl.cell 1 rfl
          have xlz1 := xl.frozen 1
          have xl2 := xl.cell 2 rfl
          have xlz2 := xl.frozen 2
          have xx0 := xx.cell 0 rfl
          have xxz0 := xx.frozen 0
          have xx1 := xx.cell 1 rfl
          have xxz1 := xx.frozen 1
          have xx2 := xx.cell 2 rfl
          have xxz2 := xx.frozen 2
          have xx3 := xx.cell 3 rfl
          have xxz3 := xx.frozen 3
          have xx4 := xx.cell 4 rfl
          have xxz4 := xx.frozen 4
          have xx5 := xx.cell 5 rfl
          have xxz5 := xx.frozen 5
          have xx6 := xx.cell 6 rfl
          have xxz6 := xx.frozen 6
          have xx7 := xx.cell 7 rfl
          have xxz7 := xx.frozen 7
          have xx8 := xx.cell 8 rfl
          have xxz8 := xx.frozen 8
          go_simp
          try go_wp2_with fail
          clear xs0 xsz0 xs1 xsz1 xs2 xsz2 xf0 xfz0 xf1 xfz1 xf2 xfz2 xf3 xfz3 xf4 xfz4 xl0 xlz0 xl1 xlz1 xl2 xlz2 xx0 xxz0 xx1 xxz1 xx2 xxz2 xx3 xxz3 xx4 xxz4 xx5 xxz5 xx6 xxz6 xx7 xxz7 xx8 xxz8
          replace xs : Box 36 (((((((((V8.setCell ⟨g_xx, 0, none⟩ (.string x.f.b0)).setCell ⟨g_xx, 1, none⟩ (.string x.f.b1)).setCell ⟨g_xx, 2, none⟩ (.int .i64 x.f.e0)).setCell ⟨g_xx, 3, none⟩ (.int .i64 x.f.e1)).setCell ⟨g_xx, 4, none⟩ (.int .i64 x.f.lim)).setCell ⟨g_xx, 5, none⟩ (.int .i64 x.acked)).setCell ⟨g_xx, 6, none⟩ (.int .u64 (x.last : Int))).setCell ⟨g_xx, 7, none⟩ (.bool x.flying)).setCell ⟨g_xx, 8, none⟩ (.int .u64 (x.flight : Int))) (W.heap.size) [.int .u64 (s.data : Int), .int .i64 s.cut, .string s.mask] := (((((((((xs.other ne_xx_xs 0 (.string x.f.b0)).other ne_xx_xs 1 (.string x.f.b1)).other ne_xx_xs 2 (.int .i64 x.f.e0)).other ne_xx_xs 3 (.int .i64 x.f.e1)).other ne_xx_xs 4 (.int .i64 x.f.lim)).other ne_xx_xs 5 (.int .i64 x.acked)).other ne_xx_xs 6 (.int .u64 (x.last : Int))).other ne_xx_xs 7 (.bool x.flying)).other ne_xx_xs 8 (.int .u64 (x.flight : Int)))
          replace xf : Box 26 (((((((((V8.setCell ⟨g_xx, 0, none⟩ (.string x.f.b0)).setCell ⟨g_xx, 1, none⟩ (.string x.f.b1)).setCell ⟨g_xx, 2, none⟩ (.int .i64 x.f.e0)).setCell ⟨g_xx, 3, none⟩ (.int .i64 x.f.e1)).setCell ⟨g_xx, 4, none⟩ (.int .i64 x.f.lim)).setCell ⟨g_xx, 5, none⟩ (.int .i64 x.acked)).setCell ⟨g_xx, 6, none⟩ (.int .u64 (x.last : Int))).setCell ⟨g_xx, 7, none⟩ (.bool x.flying)).setCell ⟨g_xx, 8, none⟩ (.int .u64 (x.flight : Int))) (V1.heap.size) [.string F.b0, .string F.b1, .int .i64 F.e0, .int .i64 F.e1, .int .i64 F.lim] := (((((((((xf.other ne_xx_xf 0 (.string x.f.b0)).other ne_xx_xf 1 (.string x.f.b1)).other ne_xx_xf 2 (.int .i64 x.f.e0)).other ne_xx_xf 3 (.int .i64 x.f.e1)).other ne_xx_xf 4 (.int .i64 x.f.lim)).other ne_xx_xf 5 (.int .i64 x.acked)).other ne_xx_xf 6 (.int .u64 (x.last : Int))).other ne_xx_xf 7 (.bool x.flying)).other ne_xx_xf 8 (.int .u64 (x.flight : Int)))
          replace xl : Box 36 (((((((((V8.setCell ⟨g_xx, 0, none⟩ (.string x.f.b0)).setCell ⟨g_xx, 1, none⟩ (.string x.f.b1)).setCell ⟨g_xx, 2, none⟩ (.int .i64 x.f.e0)).setCell ⟨g_xx, 3, none⟩ (.int .i64 x.f.e1)).setCell ⟨g_xx, 4, none⟩ (.int .i64 x.f.lim)).setCell ⟨g_xx, 5, none⟩ (.int .i64 x.acked)).setCell ⟨g_xx, 6, none⟩ (.int .u64 (x.last : Int))).setCell ⟨g_xx, 7, none⟩ (.bool x.flying)).setCell ⟨g_xx, 8, none⟩ (.int .u64 (x.flight : Int))) (V2.heap.size) [.int .u64 (s.data : Int), .int .i64 s.cut, .string s.mask] := (((((((((xl.other ne_xx_xl 0 (.string x.f.b0)).other ne_xx_xl 1 (.string x.f.b1)).other ne_xx_xl 2 (.int .i64 x.f.e0)).other ne_xx_xl 3 (.int .i64 x.f.e1)).other ne_xx_xl 4 (.int .i64 x.f.lim)).other ne_xx_xl 5 (.int .i64 x.acked)).other ne_xx_xl 6 (.int .u64 (x.last : Int))).other ne_xx_xl 7 (.bool x.flying)).other ne_xx_xl 8 (.int .u64 (x.flight : Int)))
          replace xx : Box 33 (((((((((V8.setCell ⟨g_xx, 0, none⟩ (.string x.f.b0)).setCell ⟨g_xx, 1, none⟩ (.string x.f.b1)).setCell ⟨g_xx, 2, none⟩ (.int .i64 x.f.e0)).setCell ⟨g_xx, 3, none⟩ (.int .i64 x.f.e1)).setCell ⟨g_xx, 4, none⟩ (.int .i64 x.f.lim)).setCell ⟨g_xx, 5, none⟩ (.int .i64 x.acked)).setCell ⟨g_xx, 6, none⟩ (.int .u64 (x.last : Int))).setCell ⟨g_xx, 7, none⟩ (.bool x.flying)).setCell ⟨g_xx, 8, none⟩ (.int .u64 (x.flight : Int))) (g_xx) [.string x.f.b0, .string x.f.b1, .int .i64 x.f.e0, .int .i64 x.f.e1, .int .i64 x.f.lim, .int .i64 x.acked, .int .u64 (x.last : Int), .bool x.flying, .int .u64 (x.flight : Int)] := (((((((((xx.set 0 (.string x.f.b0)).set 1 (.string x.f.b1)).set 2 (.int .i64 x.f.e0)).set 3 (.int .i64 x.f.e1)).set 4 (.int .i64 x.f.lim)).set 5 (.int .i64 x.acked)).set 6 (.int .u64 (x.last : Int))).set 7 (.bool x.flying)).set 8 (.int .u64 (x.flight : Int)))
          replace hB : Below W.heap.size W (((((((((V8.setCell ⟨g_xx, 0, none⟩ (.string x.f.b0)).setCell ⟨g_xx, 1, none⟩ (.string x.f.b1)).setCell ⟨g_xx, 2, none⟩ (.int .i64 x.f.e0)).setCell ⟨g_xx, 3, none⟩ (.int .i64 x.f.e1)).setCell ⟨g_xx, 4, none⟩ (.int .i64 x.f.lim)).setCell ⟨g_xx, 5, none⟩ (.int .i64 x.acked)).setCell ⟨g_xx, 6, none⟩ (.int .u64 (x.last : Int))).setCell ⟨g_xx, 7, none⟩ (.bool x.flying)).setCell ⟨g_xx, 8, none⟩ (.int .u64 (x.flight : Int))) := (((((((((hB.setCell le_xx _).setCell le_xx _).setCell le_xx _).setCell le_xx _).setCell le_xx _).setCell le_xx _).setCell le_xx _).setCell le_xx _).setCell le_xx _)
          generalize (((((((((V8.setCell ⟨g_xx, 0, none⟩ (.string x.f.b0)).setCell ⟨g_xx, 1, none⟩ (.string x.f.b1)).setCell ⟨g_xx, 2, none⟩ (.int .i64 x.f.e0)).setCell ⟨g_xx, 3, none⟩ (.int .i64 x.f.e1)).setCell ⟨g_xx, 4, none⟩ (.int .i64 x.f.lim)).setCell ⟨g_xx, 5, none⟩ (.int .i64 x.acked)).setCell ⟨g_xx, 6, none⟩ (.int .u64 (x.last : Int))).setCell ⟨g_xx, 7, none⟩ (.bool x.flying)).setCell ⟨g_xx, 8, none⟩ (.int .u64 (x.flight : Int))) = V9 at *
          clear hHeld
          refine hK.out _ _ ?_ (fun hHeld => ?_)
          · exact ⟨xf.cell 0 rfl, xf.cell 1 rfl, xf.cell 2 rfl, xf.cell 3 rfl, xf.cell 4 rfl, xs.cell 0 rfl, xs.cell 1 rfl, xs.cell 2 rfl⟩
          clear hK K
          try simp only [Act.put, List.getElem_toArray, List.getElem_cons_zero, List.getElem_cons_succ, List.setIfInBounds_toArray, List.set_cons_zero, List.set_cons_succ]
          refine wpAnyH_done (by kernel_rfl) ?_ _
          clear hHeld
          have xs0 := xs.cell 0 rfl
          have xsz0 := xs.frozen 0
          have xs1 := xs.cell 1 rfl
          have xsz1 := xs.frozen 1
          have xs2 := xs.cell 2 rfl
          have xsz2 := xs.frozen 2
          have xf0 := xf.cell 0 rfl
          have xfz0 := xf.frozen 0
          have xf1 := xf.cell 1 rfl
          have xfz1 := xf.frozen 1
          have xf2 := xf.cell 2 rfl
          have xfz2 := xf.frozen 2
          have xf3 := xf.cell 3 rfl
          have xfz3 := xf.frozen 3
          have xf4 := xf.cell 4 rfl
          have xfz4 := xf.frozen 4
          have xl0 := xl.cell 0 rfl
          have xlz0 := xl.frozen 0
          have xl1 := xl.cell 1 rfl
          have xlz1 := xl.frozen 1
          have xl2 := xl.cell 2 rfl
          have xlz2 := xl.frozen 2
          have xx0 := xx.cell 0 rfl
          have xxz0 := xx.frozen 0
          have xx1 := xx.cell 1 rfl
          have xxz1 := xx.frozen 1
          have xx2 := xx.cell 2 rfl
          have xxz2 := xx.frozen 2
          have xx3 := xx.cell 3 rfl
          have xxz3 := xx.frozen 3
          have xx4 := xx.cell 4 rfl
          have xxz4 := xx.frozen 4
          have xx5 := xx.cell 5 rfl
          have xxz5 := xx.frozen 5
          have xx6 := xx.cell 6 rfl
          have xxz6 := xx.frozen 6
          have xx7 := xx.cell 7 rfl
          have xxz7 := xx.frozen 7
          have xx8 := xx.cell 8 rfl
          have xxz8 := xx.frozen 8
          go_wp2_with fail
          refine (TPu.out _).mono ?_
          rintro e V10 ⟨rfl, hk⟩
          clear xs0 xsz0 xs1 xsz1 xs2 xsz2 xf0 xfz0 xf1 xfz1 xf2 xfz2 xf3 xfz3 xf4 xfz4 xl0 xlz0 xl1 xlz1 xl2 xlz2 xx0 xxz0 xx1 xxz1 xx2 xxz2 xx3 xxz3 xx4 xxz4 xx5 xxz5 xx6 xxz6 xx7 xxz7 xx8 xxz8
          replace hB := below_seq hB hk
          replace xs := xs.seq hk
          replace xf := xf.seq hk
          replace xl := xl.seq hk
          replace xx := xx.seq hk
          clear hk
          have xg := Box.new 26 V10 [.string g.b0, .string g.b1, .int .i64 g.e0, .int .i64 g.e1, .int .i64 g.lim]
          have ne_xg_xs : V10.heap.size ≠ W.heap.size := Nat.ne_of_gt xs.lt
          have ne_xg_xf : V10.heap.size ≠ V1.heap.size := Nat.ne_of_gt xf.lt
          have ne_xg_xl : V10.heap.size ≠ V2.heap.size := Nat.ne_of_gt xl.lt
          have ne_xg_xx : V10.heap.size ≠ g_xx := Nat.ne_of_gt xx.lt
          have le_xg : W.heap.size ≤ V10.heap.size := hB.size
          replace xs := xs.alloc (.cells #[.string g.b0, .string g.b1, .int .i64 g.e0, .int .i64 g.e1, .int .i64 g.lim] 26)
          replace xf := xf.alloc (.cells #[.string g.b0, .string g.b1, .int .i64 g.e0, .int .i64 g.e1, .int .i64 g.lim] 26)
          replace xl := xl.alloc (.cells #[.string g.b0, .string g.b1, .int .i64 g.e0, .int .i64 g.e1, .int .i64 g.lim] 26)
          replace xx := xx.alloc (.cells #[.string g.b0, .string g.b1, .int .i64 g.e0, .int .i64 g.e1, .int .i64 g.lim] 26)
          replace hB := hB.alloc hB.size (.cells #[.string g.b0, .string g.b1, .int .i64 g.e0, .int .i64 g.e1, .int .i64 g.lim] 26)
          have xs0 := xs.cell 0 rfl
          have xsz0 := xs.frozen 0
          have xs1 := xs.cell 1 rfl
          have xsz1 := xs.frozen 1
          have xs2 := xs.cell 2 rfl
          have xsz2 := xs.frozen 2
          have xf0 := xf.cell 0 rfl
          have xfz0 := xf.frozen 0
          have xf1 := xf.cell 1 rfl
          have xfz1 := xf.frozen 1
          have xf2 := xf.cell 2 rfl
          have xfz2 := xf.frozen 2
          have xf3 := xf.cell 3 rfl
          have xfz3 := xf.frozen 3
          have xf4 := xf.cell 4 rfl
          have xfz4 := xf.frozen 4
          have xl0 := xl.cell 0 rfl
          have xlz0 := xl.frozen 0
          have xl1 := xl.cell 1 rfl
          have xlz1 := xl.frozen 1
          have xl2 := xl.cell 2 rfl
          have xlz2 := xl.frozen 2
          have xx0 := xx.cell 0 rfl
          have xxz0 := xx.frozen 0
          have xx1 := xx.cell 1 rfl
          have xxz1 := xx.frozen 1
          have xx2 := xx.cell 2 rfl
          have xxz2 := xx.frozen 2
          have xx3 := xx.cell 3 rfl
          have xxz3 := xx.frozen 3
          have xx4 := xx.cell 4 rfl
          have xxz4 := xx.frozen 4
          have xx5 := xx.cell 5 rfl
          have xxz5 := xx.frozen 5
          have xx6 := xx.cell 6 rfl
          have xxz6 := xx.frozen 6
          have xx7 := xx.cell 7 rfl
          have xxz7 := xx.frozen 7
          have xx8 := xx.cell 8 rfl
          have xxz8 := xx.frozen 8
          have xg0 := xg.cell 0 rfl
          have xgz0 := xg.frozen 0
          have xg1 := xg.cell 1 rfl
          have xgz1 := xg.frozen 1
          have xg2 := xg.cell 2 rfl
          have xgz2 := xg.frozen 2
          have xg3 := xg.cell 3 rfl
          have xgz3 := xg.frozen 3
          have xg4 := xg.cell 4 rfl
          have xgz4 := xg.frozen 4
          go_wp2_with fail
          refine (TSg.out _).mono ?_
          rintro e V11 ⟨rfl, hk⟩
          clear xs0 xsz0 xs1 xsz1 xs2 xsz2 xf0 xfz0 xf1 xfz1 xf2 xfz2 xf3 xfz3 xf4 xfz4 xl0 xlz0 xl1 xlz1 xl2 xlz2 xx0 xxz0 xx1 xxz1 xx2 xxz2 xx3 xxz3 xx4 xxz4 xx5 xxz5 xx6 xxz6 xx7 xxz7 xx8 xxz8 xg0 xgz0 xg1 xgz1 xg2 xgz2 xg3 xgz3 xg4 xgz4
          replace hB := below_seq hB hk
          replace xs := xs.seq hk
          replace xf := xf.seq hk
          replace xl := xl.seq hk
          replace xx := xx.seq hk
          replace xg := xg.seq hk
          clear hk
          have xs0 := xs.cell 0 rfl
          have xsz0 := xs.frozen 0
          have xs1 := xs.cell 1 rfl
          have xsz1 := xs.frozen 1
          have xs2 := xs.cell 2 rfl
          have xsz2 := xs.frozen 2
          have xf0 := xf.cell 0 rfl
          have xfz0 := xf.frozen 0
          have xf1 := xf.cell 1 rfl
          have xfz1 := xf.frozen 1
          have xf2 := xf.cell 2 rfl
          have xfz2 := xf.frozen 2
          have xf3 := xf.cell 3 rfl
          have xfz3 := xf.frozen 3
          have xf4 := xf.cell 4 rfl
          have xfz4 := xf.frozen 4
          have xl0 := xl.cell 0 rfl
          have xlz0 := xl.frozen 0
          have xl1 := xl.cell 1 rfl
          have xlz1 := xl.frozen 1
          have xl2 := xl.cell 2 rfl
          have xlz2 := xl.frozen 2
          have xx0 := xx.cell 0 rfl
          have xxz0 := xx.frozen 0
          have xx1 := xx.cell 1 rfl
          have xxz1 := xx.frozen 1
          have xx2 := xx.cell 2 rfl
          have xxz2 := xx.frozen 2
          have xx3 := xx.cell 3 rfl
          have xxz3 := xx.frozen 3
          have xx4 := xx.cell 4 rfl
          have xxz4 := xx.frozen 4
          have xx5 := xx.cell 5 rfl
          have xxz5 := xx.frozen 5
          have xx6 := xx.cell 6 rfl
          have xxz6 := xx.frozen 6
          have xx7 := xx.cell 7 rfl
          have xxz7 := xx.frozen 7
          have xx8 := xx.cell 8 rfl
          have xxz8 := xx.frozen 8
          have xg0 := xg.cell 0 rfl
          have xgz0 := xg.frozen 0
          have xg1 := xg.cell 1 rfl
          have xgz1 := xg.frozen 1
          have xg2 := xg.cell 2 rfl
          have xgz2 := xg.frozen 2
          have xg3 := xg.cell 3 rfl
          have xgz3 := xg.frozen 3
          have xg4 := xg.cell 4 rfl
          have xgz4 := xg.frozen 4
          go_wp2
          go_ret
          exact ⟨rfl, hB⟩
      · have xs0 := xs.cell 0 rfl
        have xsz0 := xs.frozen 0
        have xs1 := xs.cell 1 rfl
        have xsz1 := xs.frozen 1
        have xs2 := xs.cell 2 rfl
        have xsz2 := xs.frozen 2
        have xf0 := xf.cell 0 rfl
        have xfz0 := xf.frozen 0
        have xf1 := xf.cell 1 rfl
        have xfz1 := xf.frozen 1
        have xf2 := xf.cell 2 rfl
        have xfz2 := xf.frozen 2
        have xf3 := xf.cell 3 rfl
        have xfz3 := xf.frozen 3
        have xf4 := xf.cell 4 rfl
        have xfz4 := xf.frozen 4
        have xl0 := xl.cell 0 rfl
        have xlz0 := xl.frozen 0
        have xl1 := xl.cell 1 rfl
        have xlz1 := xl.frozen 1
        have xl2 := xl.cell 2 rfl
        have xlz2 := xl.frozen 2
        go_simp
        try go_wp2_with fail
        clear xs0 xsz0 xs1 xsz1 xs2 xsz2 xf0 xfz0 xf1 xfz1 xf2 xfz2 xf3 xfz3 xf4 xfz4 xl0 xlz0 xl1 xlz1 xl2 xlz2
        have xx := Box.new 33 V5 [.string ⟨#[]⟩, .string ⟨#[]⟩, .int .i64 0, .int .i64 0, .int .i64 0, .int .i64 0, .int .u64 0, .bool false, .int .u64 0]
        have ne_xx_xs : V5.heap.size ≠ W.heap.size := Nat.ne_of_gt xs.lt
        have ne_xx_xf : V5.heap.size ≠ V1.heap.size := Nat.ne_of_gt xf.lt
        have ne_xx_xl : V5.heap.size ≠ V2.heap.size := Nat.ne_of_gt xl.lt
        have le_xx : W.heap.size ≤ V5.heap.size := hB.size
        replace xs := xs.alloc (.cells #[.string ⟨#[]⟩, .string ⟨#[]⟩, .int .i64 0, .int .i64 0, .int .i64 0, .int .i64 0, .int .u64 0, .bool false, .int .u64 0] 33)
        replace xf := xf.alloc (.cells #[.string ⟨#[]⟩, .string ⟨#[]⟩, .int .i64 0, .int .i64 0, .int .i64 0, .int .i64 0, .int .u64 0, .bool false, .int .u64 0] 33)
        replace xl := xl.alloc (.cells #[.string ⟨#[]⟩, .string ⟨#[]⟩, .int .i64 0, .int .i64 0, .int .i64 0, .int .i64 0, .int .u64 0, .bool false, .int .u64 0] 33)
        replace hB := hB.alloc hB.size (.cells #[.string ⟨#[]⟩, .string ⟨#[]⟩, .int .i64 0, .int .i64 0, .int .i64 0, .int .i64 0, .int .u64 0, .bool false, .int .u64 0] 33)
        have xs0 := xs.cell 0 rfl
        have xsz0 := xs.frozen 0
        have xs1 := xs.cell 1 rfl
        have xsz1 := xs.frozen 1
        have xs2 := xs.cell 2 rfl
        have xsz2 := xs.frozen 2
        have xf0 := xf.cell 0 rfl
        have xfz0 := xf.frozen 0
        have xf1 := xf.cell 1 rfl
        have xfz1 := xf.frozen 1
        have xf2 := xf.cell 2 rfl
        have xfz2 := xf.frozen 2
        have xf3 := xf.cell 3 rfl
        have xfz3 := xf.frozen 3
        have xf4 := xf.cell 4 rfl
        have xfz4 := xf.frozen 4
        have xl0 := xl.cell 0 rfl
        have xlz0 := xl.frozen 0
        have xl1 := xl.cell 1 rfl
        have xlz1 := xl.frozen 1
        have xl2 := xl.cell 2 rfl
        have xlz2 := xl.frozen 2
        have xx0 := xx.cell 0 rfl
        have xxz0 := xx.frozen 0
        have xx1 := xx.cell 1 rfl
        have xxz1 := xx.frozen 1
        have xx2 := xx.cell 2 rfl
        have xxz2 := xx.frozen 2
        have xx3 := xx.cell 3 rfl
        have xxz3 := xx.frozen 3
        have xx4 := xx.cell 4 rfl
        have xxz4 := xx.frozen 4
        have xx5 := xx.cell 5 rfl
        have xxz5 := xx.frozen 5
        have xx6 := xx.cell 6 rfl
        have xxz6 := xx.frozen 6
        have xx7 := xx.cell 7 rfl
        have xxz7 := xx.frozen 7
        have xx8 := xx.cell 8 rfl
        have xxz8 := xx.frozen 8
        generalize (V5.alloc (.cells #[.string ⟨#[]⟩, .string ⟨#[]⟩, .int .i64 0, .int .i64 0, .int .i64 0, .int .i64 0, .int .u64 0, .bool false, .int .u64 0] 33)) = V6 at *
        generalize V5.heap.size = g_xx at *
        clear xs0 xsz0 xs1 xsz1 xs2 xsz2 xf0 xfz0 xf1 xfz1 xf2 xfz2 xf3 xfz3 xf4 xfz4 xl0 xlz0 xl1 xlz1 xl2 xlz2 xx0 xxz0 xx1 xxz1 xx2 xxz2 xx3 xxz3 xx4 xxz4 xx5 xxz5 xx6 xxz6 xx7 xxz7 xx8 xxz8
        clear hHeld
        refine hK.out _ _ ?_ (fun hHeld => ?_)
        · exact ⟨xf.cell 0 rfl, xf.cell 1 rfl, xf.cell 2 rfl, xf.cell 3 rfl, xf.cell 4 rfl, xs.cell 0 rfl, xs.cell 1 rfl, xs.cell 2 rfl⟩
        clear hK K
        try simp only [Act.put, List.getElem_toArray, List.getElem_cons_zero, List.getElem_cons_succ, List.setIfInBounds_toArray, List.set_cons_zero, List.set_cons_succ]
        refine wpAnyH_ready (rs := [2]) (by kernel_rfl) (by simp) ?_
        refine AllReadyH.cons rfl (fun K hK => ?_) (AllReadyH.nil)
        have xs0 := xs.cell 0 rfl
        have xsz0 := xs.frozen 0
        have xs1 := xs.cell 1 rfl
        have xsz1 := xs.frozen 1
        have xs2 := xs.cell 2 rfl
        have xsz2 := xs.frozen 2
        have xf0 := xf.cell 0 rfl
        have xfz0 := xf.frozen 0
        have xf1 := xf.cell 1 rfl
        have xfz1 := xf.frozen 1
        have xf2 := xf.cell 2 rfl
        have xfz2 := xf.frozen 2
        have xf3 := xf.cell 3 rfl
        have xfz3 := xf.frozen 3
        have xf4 := xf.cell 4 rfl
        have xfz4 := xf.frozen 4
        have xl0 := xl.cell 0 rfl
        have xlz0 := xl.frozen 0
        have xl1 := xl.cell 1 rfl
        have xlz1 := xl.frozen 1
        have xl2 := xl.cell 2 rfl
        have xlz2 := xl.frozen 2
        have xx0 := xx.cell 0 rfl
        have xxz0 := xx.frozen 0
        have xx1 := xx.cell 1 rfl
        have xxz1 := xx.frozen 1
        have xx2 := xx.cell 2 rfl
        have xxz2 := xx.frozen 2
        have xx3 := xx.cell 3 rfl
        have xxz3 := xx.frozen 3
        have xx4 := xx.cell 4 rfl
        have xxz4 := xx.frozen 4
        have xx5 := xx.cell 5 rfl
        have xxz5 := xx.frozen 5
        have xx6 := xx.cell 6 rfl
        have xxz6 := xx.frozen 6
        have xx7 := xx.cell 7 rfl
        have xxz7 := xx.frozen 7
        have xx8 := xx.cell 8 rfl
        have xxz8 := xx.frozen 8
        go_simp
        refine (TRu.out _ (hlh.out.seq hB)).mono ?_
        rintro e V7 ⟨rfl, hk⟩
        clear xs0 xsz0 xs1 xsz1 xs2 xsz2 xf0 xfz0 xf1 xfz1 xf2 xfz2 xf3 xfz3 xf4 xfz4 xl0 xlz0 xl1 xlz1 xl2 xlz2 xx0 xxz0 xx1 xxz1 xx2 xxz2 xx3 xxz3 xx4 xxz4 xx5 xxz5 xx6 xxz6 xx7 xxz7 xx8 xxz8
        replace hB := below_seq hB hk
        replace xs := xs.seq hk
        replace xf := xf.seq hk
        replace xl := xl.seq hk
        replace xx := xx.seq hk
        clear hk
        have xs0 := xs.cell 0 rfl
        have xsz0 := xs.frozen 0
        have xs1 := xs.cell 1 rfl
        have xsz1 := xs.frozen 1
        have xs2 := xs.cell 2 rfl
        have xsz2 := xs.frozen 2
        have xf0 := xf.cell 0 rfl
        have xfz0 := xf.frozen 0
        have xf1 := xf.cell 1 rfl
        have xfz1 := xf.frozen 1
        have xf2 := xf.cell 2 rfl
        have xfz2 := xf.frozen 2
        have xf3 := xf.cell 3 rfl
        have xfz3 := xf.frozen 3
        have xf4 := xf.cell 4 rfl
        have xfz4 := xf.frozen 4
        have xl0 := xl.cell 0 rfl
        have xlz0 := xl.frozen 0
        have xl1 := xl.cell 1 rfl
        have xlz1 := xl.frozen 1
        have xl2 := xl.cell 2 rfl
        have xlz2 := xl.frozen 2
        have xx0 := xx.cell 0 rfl
        have xxz0 := xx.frozen 0
        have xx1 := xx.cell 1 rfl
        have xxz1 := xx.frozen 1
        have xx2 := xx.cell 2 rfl
        have xxz2 := xx.frozen 2
        have xx3 := xx.cell 3 rfl
        have xxz3 := xx.frozen 3
        have xx4 := xx.cell 4 rfl
        have xxz4 := xx.frozen 4
        have xx5 := xx.cell 5 rfl
        have xxz5 := xx.frozen 5
        have xx6 := xx.cell 6 rfl
        have xxz6 := xx.frozen 6
        have xx7 := xx.cell 7 rfl
        have xxz7 := xx.frozen 7
        have xx8 := xx.cell 8 rfl
        have xxz8 := xx.frozen 8
        try go_wp2_with fail
        clear xs0 xsz0 xs1 xsz1 xs2 xsz2 xf0 xfz0 xf1 xfz1 xf2 xfz2 xf3 xfz3 xf4 xfz4 xl0 xlz0 xl1 xlz1 xl2 xlz2 xx0 xxz0 xx1 xxz1 xx2 xxz2 xx3 xxz3 xx4 xxz4 xx5 xxz5 xx6 xxz6 xx7 xxz7 xx8 xxz8
        clear hHeld
        refine hK.out _ _ ?_ (fun hHeld => ?_)
        · exact ⟨xf.cell 0 rfl, xf.cell 1 rfl, xf.cell 2 rfl, xf.cell 3 rfl, xf.cell 4 rfl, xs.cell 0 rfl, xs.cell 1 rfl, xs.cell 2 rfl⟩
        clear hK K
        try simp only [Act.put, List.getElem_toArray, List.getElem_cons_zero, List.getElem_cons_succ, List.setIfInBounds_toArray, List.set_cons_zero, List.set_cons_succ]
        refine wpAnyH_ready (rs := [4]) (by kernel_rfl) (by simp) ?_
        refine AllReadyH.cons rfl (fun K hK => ?_) (AllReadyH.nil)
        have xs0 := xs.cell 0 rfl
        have xsz0 := xs.frozen 0
        have xs1 := xs.cell 1 rfl
        have xsz1 := xs.frozen 1
        have xs2 := xs.cell 2 rfl
        have xsz2 := xs.frozen 2
        have xf0 := xf.cell 0 rfl
        have xfz0 := xf.frozen 0
        have xf1 := xf.cell 1 rfl
        have xfz1 := xf.frozen 1
        have xf2 := xf.cell 2 rfl
        have xfz2 := xf.frozen 2
        have xf3 := xf.cell 3 rfl
        have xfz3 := xf.frozen 3
        have xf4 := xf.cell 4 rfl
        have xfz4 := xf.frozen 4
        have xl0 := xl.cell 0 rfl
        have xlz0 := xl.frozen 0
        have xl1 := xl.cell 1 rfl
        have xlz1 := xl.frozen 1
        have xl2 := xl.cell 2 rfl
        have xlz2 := xl.frozen 2
        have xx0 := xx.cell 0 rfl
        have xxz0 := xx.frozen 0
        have xx1 := xx.cell 1 rfl
        have xxz1 := xx.frozen 1
        have xx2 := xx.cell 2 rfl
        have xxz2 := xx.frozen 2
        have xx3 := xx.cell 3 rfl
        have xxz3 := xx.frozen 3
        have xx4 := xx.cell 4 rfl
        have xxz4 := xx.frozen 4
        have xx5 := xx.cell 5 rfl
        have xxz5 := xx.frozen 5
        have xx6 := xx.cell 6 rfl
        have xxz6 := xx.frozen 6
        have xx7 := xx.cell 7 rfl
        have xxz7 := xx.frozen 7
        have xx8 := xx.cell 8 rfl
        have xxz8 := xx.frozen 8
        go_simp
        refine (TP.out _).mono ?_
        rintro e V8 ⟨rfl, hk⟩
        clear xs0 xsz0 xs1 xsz1 xs2 xsz2 xf0 xfz0 xf1 xfz1 xf2 xfz2 xf3 xfz3 xf4 xfz4 xl0 xlz0 xl1 xlz1 xl2 xlz2 xx0 xxz0 xx1 xxz1 xx2 xxz2 xx3 xxz3 xx4 xxz4 xx5 xxz5 xx6 xxz6 xx7 xxz7 xx8 xxz8
        replace hB := below_seq hB hk
        replace xs := xs.seq hk
        replace xf := xf.seq hk
        replace xl := xl.seq hk
        replace xx := xx.seq hk
        clear hk
        have xs0 := xs.cell 0 rfl
        have xsz0 := xs.frozen 0
        have xs1 := xs.cell 1 rfl
        have xsz1 := xs.frozen 1
        have xs2 := xs.cell 2 rfl
        have xsz2 := xs.frozen 2
        have xf0 := xf.cell 0 rfl
        have xfz0 := xf.frozen 0
        have xf1 := xf.cell 1 rfl
        have xfz1 := xf.frozen 1
        have xf2 := xf.cell 2 rfl
        have xfz2 := xf.frozen 2
        have xf3 := xf.cell 3 rfl
        have xfz3 := xf.frozen 3
        have xf4 := xf.cell 4 rfl
        have xfz4 := xf.frozen 4
        have xl0 := xl.cell 0 rfl
        have xlz0 := xl.frozen 0
        have xl1 := xl.cell 1 rfl
        have xlz1 := xl.frozen 1
        have xl2 := xl.cell 2 rfl
        have xlz2 := xl.frozen 2
        have xx0 := xx.cell 0 rfl
        have xxz0 := xx.frozen 0
        have xx1 := xx.cell 1 rfl
        have xxz1 := xx.frozen 1
        have xx2 := xx.cell 2 rfl
        have xxz2 := xx.frozen 2
        have xx3 := xx.cell 3 rfl
        have xxz3 := xx.frozen 3
        have xx4 := xx.cell 4 rfl
        have xxz4 := xx.frozen 4
        have xx5 := xx.cell 5 rfl
        have xxz5 := xx.frozen 5
        have xx6 := xx.cell 6 rfl
        have xxz6 := xx.frozen 6
        have xx7 := xx.cell 7 rfl
        have xxz7 := xx.frozen 7
        have xx8 := xx.cell 8 rfl
        have xxz8 := xx.frozen 8
        try go_wp2_with fail
        clear xs0 xsz0 xs1 xsz1 xs2 xsz2 xf0 xfz0 xf1 xfz1 xf2 xfz2 xf3 xfz3 xf4 xfz4 xl0 xlz0 xl1 xlz1 xl2 xlz2 xx0 xxz0 xx1 xxz1 xx2 xxz2 xx3 xxz3 xx4 xxz4 xx5 xxz5 xx6 xxz6 xx7 xxz7 xx8 xxz8
        clear hHeld
        refine hK.out _ _ ?_ (fun hHeld => ?_)
        · exact ⟨xf.cell 0 rfl, xf.cell 1 rfl, xf.cell 2 rfl, xf.cell 3 rfl, xf.cell 4 rfl, xs.cell 0 rfl, xs.cell 1 rfl, xs.cell 2 rfl⟩
        clear hK K
        try simp only [Act.put, List.getElem_toArray, List.getElem_cons_zero, List.getElem_cons_succ, List.setIfInBounds_toArray, List.set_cons_zero, List.set_cons_succ]
        refine wpAnyH_ready (rs := [6]) (by kernel_rfl) (by simp) ?_
        refine AllReadyH.cons rfl (fun K hK => ?_) (AllReadyH.nil)
        have xs0 := xs.cell 0 rfl
        have xsz0 := xs.frozen 0
        have xs1 := xs.cell 1 rfl
        have xsz1 := xs.frozen 1
        have xs2 := xs.cell 2 rfl
        have xsz2 := xs.frozen 2
        have xf0 := xf.cell 0 rfl
        have xfz0 := xf.frozen 0
        have xf1 := xf.cell 1 rfl
        have xfz1 := xf.frozen 1
        have xf2 := xf.cell 2 rfl
        have xfz2 := xf.frozen 2
        have xf3 := xf.cell 3 rfl
        have xfz3 := xf.frozen 3
        have xf4 := xf.cell 4 rfl
        have xfz4 := xf.frozen 4
        have xl0 := xl.cell 0 rfl
        have xlz0 := xl.frozen 0
        have xl1 := xl.cell 1 rfl
        have xlz1 := xl.frozen 1
        have xl2 := xl.cell 2 rfl
        have xlz2 := xl.frozen 2
        have xx0 := xx.cell 0 rfl
        have xxz0 := xx.frozen 0
        have xx1 := xx.cell 1 rfl
        have xxz1 := xx.frozen 1
        have xx2 := xx.cell 2 rfl
        have xxz2 := xx.frozen 2
        have xx3 := xx.cell 3 rfl
        have xxz3 := xx.frozen 3
        have xx4 := xx.cell 4 rfl
        have xxz4 := xx.frozen 4
        have xx5 := xx.cell 5 rfl
        have xxz5 := xx.frozen 5
        have xx6 := xx.cell 6 rfl
        have xxz6 := xx.frozen 6
        have xx7 := xx.cell 7 rfl
        have xxz7 := xx.frozen 7
        have xx8 := xx.cell 8 rfl
        have xxz8 := xx.frozen 8
        go_simp
        try go_wp2_with fail
        clear xs0 xsz0 xs1 xsz1 xs2 xsz2 xf0 xfz0 xf1 xfz1 xf2 xfz2 xf3 xfz3 xf4 xfz4 xl0 xlz0 xl1 xlz1 xl2 xlz2 xx0 xxz0 xx1 xxz1 xx2 xxz2 xx3 xxz3 xx4 xxz4 xx5 xxz5 xx6 xxz6 xx7 xxz7 xx8 xxz8
        replace xs : Box 36 (((((((((V8.setCell ⟨g_xx, 0, none⟩ (.string x.f.b0)).setCell ⟨g_xx, 1, none⟩ (.string x.f.b1)).setCell ⟨g_xx, 2, none⟩ (.int .i64 x.f.e0)).setCell ⟨g_xx, 3, none⟩ (.int .i64 x.f.e1)).setCell ⟨g_xx, 4, none⟩ (.int .i64 x.f.lim)).setCell ⟨g_xx, 5, none⟩ (.int .i64 x.acked)).setCell ⟨g_xx, 6, none⟩ (.int .u64 (x.last : Int))).setCell ⟨g_xx, 7, none⟩ (.bool x.flying)).setCell ⟨g_xx, 8, none⟩ (.int .u64 (x.flight : Int))) (W.heap.size) [.int .u64 (s.data : Int), .int .i64 s.cut, .string s.mask] := (((((((((xs.other ne_xx_xs 0 (.string x.f.b0)).other ne_xx_xs 1 (.string x.f.b1)).other ne_xx_xs 2 (.int .i64 x.f.e0)).other ne_xx_xs 3 (.int .i64 x.f.e1)).other ne_xx_xs 4 (.int .i64 x.f.lim)).other ne_xx_xs 5 (.int .i64 x.acked)).other ne_xx_xs 6 (.int .u64 (x.last : Int))).other ne_xx_xs 7 (.bool x.flying)).other ne_xx_xs 8 (.int .u64 (x.flight : Int)))
        replace xf : Box 26 (((((((((V8.setCell ⟨g_xx, 0, none⟩ (.string x.f.b0)).setCell ⟨g_xx, 1, none⟩ (.string x.f.b1)).setCell ⟨g_xx, 2, none⟩ (.int .i64 x.f.e0)).setCell ⟨g_xx, 3, none⟩ (.int .i64 x.f.e1)).setCell ⟨g_xx, 4, none⟩ (.int .i64 x.f.lim)).setCell ⟨g_xx, 5, none⟩ (.int .i64 x.acked)).setCell ⟨g_xx, 6, none⟩ (.int .u64 (x.last : Int))).setCell ⟨g_xx, 7, none⟩ (.bool x.flying)).setCell ⟨g_xx, 8, none⟩ (.int .u64 (x.flight : Int))) (V1.heap.size) [.string F.b0, .string F.b1, .int .i64 F.e0, .int .i64 F.e1, .int .i64 F.lim] := (((((((((xf.other ne_xx_xf 0 (.string x.f.b0)).other ne_xx_xf 1 (.string x.f.b1)).other ne_xx_xf 2 (.int .i64 x.f.e0)).other ne_xx_xf 3 (.int .i64 x.f.e1)).other ne_xx_xf 4 (.int .i64 x.f.lim)).other ne_xx_xf 5 (.int .i64 x.acked)).other ne_xx_xf 6 (.int .u64 (x.last : Int))).other ne_xx_xf 7 (.bool x.flying)).other ne_xx_xf 8 (.int .u64 (x.flight : Int)))
        replace xl : Box 36 (((((((((V8.setCell ⟨g_xx, 0, none⟩ (.string x.f.b0)).setCell ⟨g_xx, 1, none⟩ (.string x.f.b1)).setCell ⟨g_xx, 2, none⟩ (.int .i64 x.f.e0)).setCell ⟨g_xx, 3, none⟩ (.int .i64 x.f.e1)).setCell ⟨g_xx, 4, none⟩ (.int .i64 x.f.lim)).setCell ⟨g_xx, 5, none⟩ (.int .i64 x.acked)).setCell ⟨g_xx, 6, none⟩ (.int .u64 (x.last : Int))).setCell ⟨g_xx, 7, none⟩ (.bool x.flying)).setCell ⟨g_xx, 8, none⟩ (.int .u64 (x.flight : Int))) (V2.heap.size) [.int .u64 (s.data : Int), .int .i64 s.cut, .string s.mask] := (((((((((xl.other ne_xx_xl 0 (.string x.f.b0)).other ne_xx_xl 1 (.string x.f.b1)).other ne_xx_xl 2 (.int .i64 x.f.e0)).other ne_xx_xl 3 (.int .i64 x.f.e1)).other ne_xx_xl 4 (.int .i64 x.f.lim)).other ne_xx_xl 5 (.int .i64 x.acked)).other ne_xx_xl 6 (.int .u64 (x.last : Int))).other ne_xx_xl 7 (.bool x.flying)).other ne_xx_xl 8 (.int .u64 (x.flight : Int)))
        replace xx : Box 33 (((((((((V8.setCell ⟨g_xx, 0, none⟩ (.string x.f.b0)).setCell ⟨g_xx, 1, none⟩ (.string x.f.b1)).setCell ⟨g_xx, 2, none⟩ (.int .i64 x.f.e0)).setCell ⟨g_xx, 3, none⟩ (.int .i64 x.f.e1)).setCell ⟨g_xx, 4, none⟩ (.int .i64 x.f.lim)).setCell ⟨g_xx, 5, none⟩ (.int .i64 x.acked)).setCell ⟨g_xx, 6, none⟩ (.int .u64 (x.last : Int))).setCell ⟨g_xx, 7, none⟩ (.bool x.flying)).setCell ⟨g_xx, 8, none⟩ (.int .u64 (x.flight : Int))) (g_xx) [.string x.f.b0, .string x.f.b1, .int .i64 x.f.e0, .int .i64 x.f.e1, .int .i64 x.f.lim, .int .i64 x.acked, .int .u64 (x.last : Int), .bool x.flying, .int .u64 (x.flight : Int)] := (((((((((xx.set 0 (.string x.f.b0)).set 1 (.string x.f.b1)).set 2 (.int .i64 x.f.e0)).set 3 (.int .i64 x.f.e1)).set 4 (.int .i64 x.f.lim)).set 5 (.int .i64 x.acked)).set 6 (.int .u64 (x.last : Int))).set 7 (.bool x.flying)).set 8 (.int .u64 (x.flight : Int)))
        replace hB : Below W.heap.size W (((((((((V8.setCell ⟨g_xx, 0, none⟩ (.string x.f.b0)).setCell ⟨g_xx, 1, none⟩ (.string x.f.b1)).setCell ⟨g_xx, 2, none⟩ (.int .i64 x.f.e0)).setCell ⟨g_xx, 3, none⟩ (.int .i64 x.f.e1)).setCell ⟨g_xx, 4, none⟩ (.int .i64 x.f.lim)).setCell ⟨g_xx, 5, none⟩ (.int .i64 x.acked)).setCell ⟨g_xx, 6, none⟩ (.int .u64 (x.last : Int))).setCell ⟨g_xx, 7, none⟩ (.bool x.flying)).setCell ⟨g_xx, 8, none⟩ (.int .u64 (x.flight : Int))) := (((((((((hB.setCell le_xx _).setCell le_xx _).setCell le_xx _).setCell le_xx _).setCell le_xx _).setCell le_xx _).setCell le_xx _).setCell le_xx _).setCell le_xx _)
        generalize (((((((((V8.setCell ⟨g_xx, 0, none⟩ (.string x.f.b0)).setCell ⟨g_xx, 1, none⟩ (.string x.f.b1)).setCell ⟨g_xx, 2, none⟩ (.int .i64 x.f.e0)).setCell ⟨g_xx, 3, none⟩ (.int .i64 x.f.e1)).setCell ⟨g_xx, 4, none⟩ (.int .i64 x.f.lim)).setCell ⟨g_xx, 5, none⟩ (.int .i64 x.acked)).setCell ⟨g_xx, 6, none⟩ (.int .u64 (x.last : Int))).setCell ⟨g_xx, 7, none⟩ (.bool x.flying)).setCell ⟨g_xx, 8, none⟩ (.int .u64 (x.flight : Int))) = V9 at *
        clear hHeld
        refine hK.out _ _ ?_ (fun hHeld => ?_)
        · exact ⟨xf.cell 0 rfl, xf.cell 1 rfl, xf.cell 2 rfl, xf.cell 3 rfl, xf.cell 4 rfl, xs.cell 0 rfl, xs.cell 1 rfl, xs.cell 2 rfl⟩
        clear hK K
        try simp only [Act.put, List.getElem_toArray, List.getElem_cons_zero, List.getElem_cons_succ, List.setIfInBounds_toArray, List.set_cons_zero, List.set_cons_succ]
        refine wpAnyH_done (by kernel_rfl) ?_ _
        clear hHeld
        have xs0 := xs.cell 0 rfl
        have xsz0 := xs.frozen 0
        have xs1 := xs.cell 1 rfl
        have xsz1 := xs.frozen 1
        have xs2 := xs.cell 2 rfl
        have xsz2 := xs.frozen 2
        have xf0 := xf.cell 0 rfl
        have xfz0 := xf.frozen 0
        have xf1 := xf.cell 1 rfl
        have xfz1 := xf.frozen 1
        have xf2 := xf.cell 2 rfl
        have xfz2 := xf.frozen 2
        have xf3 := xf.cell 3 rfl
        have xfz3 := xf.frozen 3
        have xf4 := xf.cell 4 rfl
        have xfz4 := xf.frozen 4
        have xl0 := xl.cell 0 rfl
        have xlz0 := xl.frozen 0
        have xl1 := xl.cell 1 rfl
        have xlz1 := xl.frozen 1
        have xl2 := xl.cell 2 rfl
        have xlz2 := xl.frozen 2
        have xx0 := xx.cell 0 rfl
        have xxz0 := xx.frozen 0
        have xx1 := xx.cell 1 rfl
        have xxz1 := xx.frozen 1
        have xx2 := xx.cell 2 rfl
        have xxz2 := xx.frozen 2
        have xx3 := xx.cell 3 rfl
        have xxz3 := xx.frozen 3
        have xx4 := xx.cell 4 rfl
        have xxz4 := xx.frozen 4
        have xx5 := xx.cell 5 rfl
        have xxz5 := xx.frozen 5
        have xx6 := xx.cell 6 rfl
        have xxz6 := xx.frozen 6
        have xx7 := xx.cell 7 rfl
        have xxz7 := xx.frozen 7
        have xx8 := xx.cell 8 rfl
        have xxz8 := xx.frozen 8
        go_wp2_with fail
        refine (TPu.out _).mono ?_
        rintro e V10 ⟨rfl, hk⟩
        clear xs0 xsz0 xs1 xsz1 xs2 xsz2 xf0 xfz0 xf1 xfz1 xf2 xfz2 xf3 xfz3 xf4 xfz4 xl0 xlz0 xl1 xlz1 xl2 xlz2 xx0 xxz0 xx1 xxz1 xx2 xxz2 xx3 xxz3 xx4 xxz4 xx5 xxz5 xx6 xxz6 xx7 xxz7 xx8 xxz8
        replace hB := below_seq hB hk
        replace xs := xs.seq hk
        replace xf := xf.seq hk
        replace xl := xl.seq hk
        replace xx := xx.seq hk
        clear hk
        have xg := Box.new 26 V10 [.string g.b0, .string g.b1, .int .i64 g.e0, .int .i64 g.e1, .int .i64 g.lim]
        have ne_xg_xs : V10.heap.size ≠ W.heap.size := Nat.ne_of_gt xs.lt
        have ne_xg_xf : V10.heap.size ≠ V1.heap.size := Nat.ne_of_gt xf.lt
        have ne_xg_xl : V10.heap.size ≠ V2.heap.size := Nat.ne_of_gt xl.lt
        have ne_xg_xx : V10.heap.size ≠ g_xx := Nat.ne_of_gt xx.lt
        have le_xg : W.heap.size ≤ V10.heap.size := hB.size
        replace xs := xs.alloc (.cells #[.string g.b0, .string g.b1, .int .i64 g.e0, .int .i64 g.e1, .int .i64 g.lim] 26)
        replace xf := xf.alloc (.cells #[.string g.b0, .string g.b1, .int .i64 g.e0, .int .i64 g.e1, .int .i64 g.lim] 26)
        replace xl := xl.alloc (.cells #[.string g.b0, .string g.b1, .int .i64 g.e0, .int .i64 g.e1, .int .i64 g.lim] 26)
        replace xx := xx.alloc (.cells #[.string g.b0, .string g.b1, .int .i64 g.e0, .int .i64 g.e1, .int .i64 g.lim] 26)
        replace hB := hB.alloc hB.size (.cells #[.string g.b0, .string g.b1, .int .i64 g.e0, .int .i64 g.e1, .int .i64 g.lim] 26)
        have xs0 := xs.cell 0 rfl
        have xsz0 := xs.frozen 0
        have xs1 := xs.cell 1 rfl
        have xsz1 := xs.frozen 1
        have xs2 := xs.cell 2 rfl
        have xsz2 := xs.frozen 2
        have xf0 := xf.cell 0 rfl
        have xfz0 := xf.frozen 0
        have xf1 := xf.cell 1 rfl
        have xfz1 := xf.frozen 1
        have xf2 := xf.cell 2 rfl
        have xfz2 := xf.frozen 2
        have xf3 := xf.cell 3 rfl
        have xfz3 := xf.frozen 3
        have xf4 := xf.cell 4 rfl
        have xfz4 := xf.frozen 4
        have xl0 := xl.cell 0 rfl
        have xlz0 := xl.frozen 0
        have xl1 := xl.cell 1 rfl
        have xlz1 := xl.frozen 1
        have xl2 := xl.cell 2 rfl
        have xlz2 := xl.frozen 2
        have xx0 := xx.cell 0 rfl
        have xxz0 := xx.frozen 0
        have xx1 := xx.cell 1 rfl
        have xxz1 := xx.frozen 1
        have xx2 := xx.cell 2 rfl
        have xxz2 := xx.frozen 2
        have xx3 := xx.cell 3 rfl
        have xxz3 := xx.frozen 3
        have xx4 := xx.cell 4 rfl
        have xxz4 := xx.frozen 4
        have xx5 := xx.cell 5 rfl
        have xxz5 := xx.frozen 5
        have xx6 := xx.cell 6 rfl
        have xxz6 := xx.frozen 6
        have xx7 := xx.cell 7 rfl
        have xxz7 := xx.frozen 7
        have xx8 := xx.cell 8 rfl
        have xxz8 := xx.frozen 8
        have xg0 := xg.cell 0 rfl
        have xgz0 := xg.frozen 0
        have xg1 := xg.cell 1 rfl
        have xgz1 := xg.frozen 1
        have xg2 := xg.cell 2 rfl
        have xgz2 := xg.frozen 2
        have xg3 := xg.cell 3 rfl
        have xgz3 := xg.frozen 3
        have xg4 := xg.cell 4 rfl
        have xgz4 := xg.frozen 4
        go_wp2_with fail
        refine (TSg.out _).mono ?_
        rintro e V11 ⟨rfl, hk⟩
        clear xs0 xsz0 xs1 xsz1 xs2 xsz2 xf0 xfz0 xf1 xfz1 xf2 xfz2 xf3 xfz3 xf4 xfz4 xl0 xlz0 xl1 xlz1 xl2 xlz2 xx0 xxz0 xx1 xxz1 xx2 xxz2 xx3 xxz3 xx4 xxz4 xx5 xxz5 xx6 xxz6 xx7 xxz7 xx8 xxz8 xg0 xgz0 xg1 xgz1 xg2 xgz2 xg3 xgz3 xg4 xgz4
        replace hB := below_seq hB hk
        replace xs := xs.seq hk
        replace xf := xf.seq hk
        replace xl := xl.seq hk
        replace xx := xx.seq hk
        replace xg := xg.seq hk
        clear hk
        have xs0 := xs.cell 0 rfl
        have xsz0 := xs.frozen 0
        have xs1 := xs.cell 1 rfl
        have xsz1 := xs.frozen 1
        have xs2 := xs.cell 2 rfl
        have xsz2 := xs.frozen 2
        have xf0 := xf.cell 0 rfl
        have xfz0 := xf.frozen 0
        have xf1 := xf.cell 1 rfl
        have xfz1 := xf.frozen 1
        have xf2 := xf.cell 2 rfl
        have xfz2 := xf.frozen 2
        have xf3 := xf.cell 3 rfl
        have xfz3 := xf.frozen 3
        have xf4 := xf.cell 4 rfl
        have xfz4 := xf.frozen 4
        have xl0 := xl.cell 0 rfl
        have xlz0 := xl.frozen 0
        have xl1 := xl.cell 1 rfl
        have xlz1 := xl.frozen 1
        have xl2 := xl.cell 2 rfl
        have xlz2 := xl.frozen 2
        have xx0 := xx.cell 0 rfl
        have xxz0 := xx.frozen 0
        have xx1 := xx.cell 1 rfl
        have xxz1 := xx.frozen 1
        have xx2 := xx.cell 2 rfl
        have xxz2 := xx.frozen 2
        have xx3 := xx.cell 3 rfl
        have xxz3 := xx.frozen 3
        have xx4 := xx.cell 4 rfl
        have xxz4 := xx.frozen 4
        have xx5 := xx.cell 5 rfl
        have xxz5 := xx.frozen 5
        have xx6 := xx.cell 6 rfl
        have xxz6 := xx.frozen 6
        have xx7 := xx.cell 7 rfl
        have xxz7 := xx.frozen 7
        have xx8 := xx.cell 8 rfl
        have xxz8 := xx.frozen 8
        have xg0 := xg.cell 0 rfl
        have xgz0 := xg.frozen 0
        have xg1 := xg.cell 1 rfl
        have xgz1 := xg.frozen 1
        have xg2 := xg.cell 2 rfl
        have xgz2 := xg.frozen 2
        have xg3 := xg.cell 3 rfl
        have xgz3 := xg.frozen 3
        have xg4 := xg.cell 4 rfl
        have xgz4 := xg.frozen 4
        go_wp2
        go_ret
        exact ⟨rfl, hB⟩

theorem own : ownKnob Try.prog.godebug = none := by kernel_rfl

set_option maxRecDepth 100000 in
theorem lifted (os : Os) (started : os.Started) (H : Type) (enc : TypeId × Value → H) :
    ReturnsInHanded {} Try.checked os 7 .any (Rows.journalAgainSpec.pre6 enc Try.prog Try.f7 Rows.journalAgainRow.domain false) (Rows.journalAgainSpec.post enc Try.prog Try.f7 false true false false) := by
  refine returnsInHanded_of_change (C := Try.checked) own started (by kernel_rfl) Try.func7
    (ChangeSpec.witness6 (enc := enc) (C := Try.checked) false ⟨#[], #[.int .u8 0, .slice none 0 0, .agg #[.int .u64 0, .int .i64 0, .string ⟨#[]⟩]], []⟩ 8 (by kernel_rfl) (by kernel_rfl) (by kernel_rfl) (by kernel_rfl)) ?_
  intro W base args ds gs before hval hW _ _
  have hW' := hW
  obtain ⟨p, q, hA0, hV, rfl, hfz, hnd⟩ := hW
  have hA : DataW.TrodAll enc Try.prog W 0 (fun _ => true) true Try.f7.params.toList args.toList ds p := hA0
  rw [Try.params7] at hA hval
  obtain ⟨v0, vs0, d0, ds0, p0, q0, hargs, rfl, rfl, h0, r0⟩ := trodAll_cons hA
  obtain ⟨v1, vs1, d1, ds1, p1, q1, rfl, rfl, rfl, h1, r1⟩ := trodAll_cons r0
  obtain ⟨v2, vs2, d2, ds2, p2, q2, rfl, rfl, rfl, h2, r2⟩ := trodAll_cons r1
  obtain ⟨rfl, rfl, rfl⟩ := trodAll_nil r2
  obtain rfl : args = #[v0, v1, v2] := by cases args; simp_all
  obtain ⟨rfl, rfl⟩ := trodVars_none hV
  obtain ⟨a0, rfl, rfl, rfl, w0⟩ := open_int Try.underlying5 (hval 0 5 v0 rfl rfl) h0
  obtain ⟨c0, rfl⟩ := int_u8 w0
  have k1 := h1
  obtain ⟨s1, A1, c1, rfl, hs1, ho1, hp1, hq1⟩ := open_stps (hval 1 22 v1 rfl rfl) h1
  have k2 := h2
  obtain ⟨s2, rfl, hs2⟩ := open_stp (hval 2 36 v2 rfl rfl) h2
  clear hA0
  simp only [List.append_nil] at hW'
  refine (walk c0 s1 A1 c1 s2 W hs1 ho1 hp1 hq1 hs2).mono fun e W' ⟨he, hB⟩ => ?_
  subst he
  exact ⟨_, rfl, ⟨_, _, _, [], _, [], hW', trodAll_cons_mk (shut_bool Try.underlying4 _) trodAll_mk0, (trodAll_cons_mk (shut_int Try.underlying5 w0) (trodAll_cons_mk (Below.trod Try.laidOut (by kernel_rfl) (of_decide_eq_true (by kernel_rfl)) k1 hB (fun x hx => by simpa using hW'.lt x (by simp [hx]))) (trodAll_cons_mk (Below.trod Try.laidOut (by kernel_rfl) (of_decide_eq_true (by kernel_rfl)) k2 hB (fun x hx => by simpa using hW'.lt x (by simp [hx]))) trodAll_mk0))), rfl, hB.frame _, fun h => by cases h⟩⟩

theorem holds : Rows.JournalAgainSaid :=
  OpenClaim.holds_of_wide 7 Try.f7 rfl rfl rfl rfl rfl rfl rfl ⟨rfl, rfl, rfl, rfl, rfl⟩ rfl rfl rfl rfl rfl (by kernel_rfl) Try.func7 (by kernel_rfl)
    (of_decide_eq_true (by kernel_rfl)) (by unfold Func.isWrapper; first | (rw [if_pos (by decide +kernel)]; kernel_rfl) | (rw [if_neg (by decide +kernel)]; exact ⟨rfl, rfl⟩))
    (fun os started H enc _ => lifted os started H enc)
end Go.Proofs.Ythmpjoiifglbjaa.JournalAgain

/- A flash that is handed in, opened to its parts: no statement is proved here. -/
import Derived.Test.YthmpjoiifglbjaaGreatRows
import Derived.Test.YthmpjoiifglbjaaGreatJourFit
import Derived.Test.YthmpjoiifglbjaaGreatJourOpen
import Derived.Test.YthmpjoiifglbjaaGreatBox
import Derived.Test.YthmpjoiifglbjaaGreatInts
import Derived.WalkKit
import Derived.ProofKit
import Derived.Lib.Hide
import Derived.Test.YthmpjoiifglbjaaGreatPowerDo
import Derived.Deep.RegionHeld3
import Derived.WalkLawsBesides
import Derived.WalkSpells
import Derived.IntWalk
import Derived.Maps.AppendAt
import Derived.Test.YthmpjoiifglbjaaGreatFlash
import Derived.OpenShut
import Derived.ChangeMaps5
import Derived.Carry
namespace Go.Proofs.YthmpjoiifglbjaaGreat
open Go.RowKit
set_option linter.unusedVariables false
set_option linter.unusedSimpArgs false

theorem big12_no2 {f : Fl} {l : List Stp} (h : big12 f l = false) : f.b0.size ≤ 400 ∧ f.b1.size ≤ 400 := by unfold big12 at h; simp at h; omega

set_option maxRecDepth 100000 in
set_option maxHeartbeats 4000000 in
theorem law12Log (l : Lg) (W : World) : Calls Tryz.prog 17 #[.agg #[.string l.f.b0, .string l.f.b1, .int .i64 l.f.e0, .int .i64 l.f.e1, .int .i64 l.f.lim, .int .i64 l.acked, .int .u64 (l.last : Int), .bool l.flying, .int .u64 (l.flight : Int)]] W fun e W' => e = .returned (.agg #[.string l.f.b0, .string l.f.b1, .int .i64 l.f.e0, .int .i64 l.f.e1, .int .i64 l.f.lim, .int .i64 l.acked, .int .u64 (l.last : Int), .bool l.flying, .int .u64 (l.flight : Int)]) ∧ Below W.heap.size W W' := by
  have hB : Below W.heap.size W ((W.alloc (.cells #[.string l.f.b0, .string l.f.b1, .int .i64 l.f.e0, .int .i64 l.f.e1, .int .i64 l.f.lim, .int .i64 l.acked, .int .u64 (l.last : Int), .bool l.flying, .int .u64 (l.flight : Int)] 43)).alloc (.cells #[.string l.f.b0, .string l.f.b1, .int .i64 l.f.e0, .int .i64 l.f.e1, .int .i64 l.f.lim, .int .i64 l.acked, .int .u64 (l.last : Int), .bool l.flying, .int .u64 (l.flight : Int)] 46)) := (((Below.refl _ _).alloc (Nat.le_refl _) _).alloc (by simp) _)
  have xl := ((Box.new 43 W [.string l.f.b0, .string l.f.b1, .int .i64 l.f.e0, .int .i64 l.f.e1, .int .i64 l.f.lim, .int .i64 l.acked, .int .u64 (l.last : Int), .bool l.flying, .int .u64 (l.flight : Int)]).alloc (.cells #[.string l.f.b0, .string l.f.b1, .int .i64 l.f.e0, .int .i64 l.f.e1, .int .i64 l.f.lim, .int .i64 l.acked, .int .u64 (l.last : Int), .bool l.flying, .int .u64 (l.flight : Int)] 46))
  have xr : Box 46 ((W.alloc (.cells #[.string l.f.b0, .string l.f.b1, .int .i64 l.f.e0, .int .i64 l.f.e1, .int .i64 l.f.lim, .int .i64 l.acked, .int .u64 (l.last : Int), .bool l.flying, .int .u64 (l.flight : Int)] 43)).alloc (.cells #[.string l.f.b0, .string l.f.b1, .int .i64 l.f.e0, .int .i64 l.f.e1, .int .i64 l.f.lim, .int .i64 l.acked, .int .u64 (l.last : Int), .bool l.flying, .int .u64 (l.flight : Int)] 46)) (W.heap.size + 1) [.string l.f.b0, .string l.f.b1, .int .i64 l.f.e0, .int .i64 l.f.e1, .int .i64 l.f.lim, .int .i64 l.acked, .int .u64 (l.last : Int), .bool l.flying, .int .u64 (l.flight : Int)] := by have h := (Box.new 46 (W.alloc (.cells #[.string l.f.b0, .string l.f.b1, .int .i64 l.f.e0, .int .i64 l.f.e1, .int .i64 l.f.lim, .int .i64 l.acked, .int .u64 (l.last : Int), .bool l.flying, .int .u64 (l.flight : Int)] 43)) [.string l.f.b0, .string l.f.b1, .int .i64 l.f.e0, .int .i64 l.f.e1, .int .i64 l.f.lim, .int .i64 l.acked, .int .u64 (l.last : Int), .bool l.flying, .int .u64 (l.flight : Int)]); rwa [World.size_alloc] at h
  have le_xr : W.heap.size ≤ W.heap.size + 1 := by omega
  go_enter Tryz.func17, Tryz.ntmps17
  have xl0 := xl.cell 0 rfl
  have xlz0 := xl.frozen 0
  have xl1 := xl.cell 1 rfl
  have xlz1 := xl.frozen 1
  have xl2 := xl.cell 2 rfl
  have xlz2 := xl.frozen 2
  have xl3 := xl.cell 3 rfl
  have xlz3 := xl.frozen 3
  have xl4 := xl.cell 4 rfl
  have xlz4 := xl.frozen 4
  have xl5 := xl.cell 5 rfl
  have xlz5 := xl.frozen 5
  have xl6 := xl.cell 6 rfl
  have xlz6 := xl.frozen 6
  have xl7 := xl.cell 7 rfl
  have xlz7 := xl.frozen 7
  have xl8 := xl.cell 8 rfl
  have xlz8 := xl.frozen 8
  have xr0 := xr.cell 0 rfl
  have xrz0 := xr.frozen 0
  have xr1 := xr.cell 1 rfl
  have xrz1 := xr.frozen 1
  have xr2 := xr.cell 2 rfl
  have xrz2 := xr.frozen 2
  have xr3 := xr.cell 3 rfl
  have xrz3 := xr.frozen 3
  have xr4 := xr.cell 4 rfl
  have xrz4 := xr.frozen 4
  have xr5 := xr.cell 5 rfl
  have xrz5 := xr.frozen 5
  have xr6 := xr.cell 6 rfl
  have xrz6 := xr.frozen 6
  have xr7 := xr.cell 7 rfl
  have xrz7 := xr.frozen 7
  have xr8 := xr.cell 8 rfl
  have xrz8 := xr.frozen 8
  go_wp2
  exact bodyPost_ret (v := .agg #[.string l.f.b0, .string l.f.b1, .int .i64 l.f.e0, .int .i64 l.f.e1, .int .i64 l.f.lim, .int .i64 l.acked, .int .u64 (l.last : Int), .bool l.flying, .int .u64 (l.flight : Int)]) (by simp [results, Tryz.results17, go_sem, xr0, xr1, xr2, xr3, xr4, xr5, xr6, xr7, xr8]) rfl ⟨rfl, hB⟩

theorem Tryz.info_stp3 : (Tryz.prog.info? 38).map (fun i => (i.zero, i.size, i.bytes)) = some (some (.agg #[.int .u64 0, .int .i64 0, .string ⟨#[]⟩]), 3, 32) := by kernel_rfl
theorem flat_cv {α : Type} {n : Nat} {cv : α → List Value} (hcv : ∀ o, (cv o).length = n) {o : α} {j : Nat} (hj : j < n) : ∀ (l : List α) (k : Nat), l[k]? = some o → (l.flatMap cv)[k * n + j]? = (cv o)[j]? := fun l => by
  induction l with
  | nil => intro k h; cases h
  | cons a l ih =>
    intro k h
    rw [List.flatMap_cons]
    cases k with
    | zero =>
      simp only [List.getElem?_cons_zero, Option.some.injEq] at h
      subst h
      rw [List.getElem?_append_left (by rw [hcv]; omega)]
      congr 1; omega
    | succ k =>
      have e : (k + 1) * n = k * n + n := by rw [Nat.add_mul, Nat.one_mul]
      rw [List.getElem?_append_right (by rw [hcv]; omega), ← ih k (by simpa using h)]
      congr 1; rw [hcv]; omega
theorem flat_lt {n k m j : Nat} (hk : k < m) (hj : j < n) : k * n + j < m * n := by
  have h : (k + 1) * n ≤ m * n := Nat.mul_le_mul_right n hk
  rw [Nat.add_mul, Nat.one_mul] at h; omega
/-- A slice of the call's own holds these elements. -/
theorem rows_of_row {α : Type} {n : Nat} {cv : α → List Value} (hcv : ∀ o, (cv o).length = n) {w : World} {base : Nat} {t : TypeId} {v : Value} {l : List α} (h : w.ownsRow base t n v l.length (l.flatMap cv)) :
    ∃ (A : Option Addr) (c : Nat), v = .slice A l.length c ∧ RowsAt n cv w A l ∧ (l.length ≤ c ∧ c ≤ maxLen) := by
  rcases h.2 with ⟨hv, h0⟩ | ⟨g, cap, cur, hv, hb, hg, hc1, hc2, hsz, htk⟩
  · exact ⟨none, 0, by rw [hv, h0], fun hn => by omega, by omega, by unfold maxLen; omega⟩
  · refine ⟨_, cap, hv, fun hn => ⟨g, 0, rfl, ?_, fun k o ho j hj => ?_⟩, hc1, hc2⟩
    · rcases Nat.lt_or_ge g w.heap.size with hlt | hge
      · exact hlt
      · rw [Array.getElem?_eq_none hge] at hg; cases hg
    · have hk : k < l.length := (List.getElem?_eq_some_iff.1 ho).1
      have hl := flat_lt (n := n) hk hj
      rw [cell_of_row w g _ _ _ (0, 0) hg, Nat.zero_add, ← flat_cv hcv hj l k ho, ← htk, List.getElem?_take, if_pos (by omega)]; simp
theorem stp_news (W : World) (t : TypeId) (o : Stp) : ∀ j u, (stpV o)[j]? = some u → (W.alloc (.cells #[.int .u64 (o.data : Int), .int .i64 o.cut, .string o.mask] t)).cell? ((⟨W.heap.size, 0, none⟩ : Addr).add j) = some u := fun j u h => by
  have e : (⟨W.heap.size, 0, none⟩ : Addr).add j = ⟨W.heap.size, j, none⟩ := by simp [Addr.add]; intro h; exact h.symm
  rw [e]; exact (Box.new t W (stpV o)).cell j h

set_option maxRecDepth 100000 in
set_option maxHeartbeats 4000000 in
theorem law12Steps (l : List Stp) (A : Option Addr) (c : Nat) (W : World) (hl : RowsAt 3 stpV W A l) (hc : l.length ≤ c ∧ c ≤ maxLen) (hn : l.length ≤ 60) :
    Calls Tryz.prog 14 #[.slice A l.length c] W fun e W' => ∃ (A : Option Addr) (c : Nat), e = .returned (.slice A l.length c) ∧ RowsAt 3 stpV W' A l ∧ (l.length ≤ c ∧ c ≤ maxLen) ∧ Below W.heap.size W W' := by
  obtain ⟨i0, hi, hz0, hz1, hz2⟩ := info_parts Tryz.info_stp3
  have HL := Lib.hid (fun k o hk => hl.hop k o hk)
  clear hl
  go_enter Tryz.func14, Tryz.ntmps14
  go_wp2
  go_loopw [3, 4] (fun v i w => ∃ k : Nat, k ≤ l.length ∧ i = .int .i64 k ∧ w.ownsRow W.heap.size 38 3 v k ((l.take k).flatMap stpV) ∧ Below W.heap.size W w)
    (fun _ i _ => l.length - (intOf i).toNat)
  case atStart => exact ⟨0, Nat.zero_le _, rfl, World.ownsRow_made _ _ 0 (by simp) (by simp) rfl, (Below.refl _ _).alloc (Nat.le_refl _) _⟩
  case round =>
    obtain ⟨k, hk, rfl, hown, hB⟩ := hrel
    have hsz := hB.size
    by_cases hlt : k < l.length
    · obtain ⟨o, hoo⟩ : ∃ o, l[k]? = some o := ⟨_, List.getElem?_eq_getElem hlt⟩
      obtain ⟨gL, off, rfl, HC⟩ := HL.out k o hoo
      have d0 : wr.cell? ⟨gL, off + k * 3, none⟩ = some (.int .u64 (o.data : Int)) := HC _ hB 0 (by decide)
      have d1 : wr.cell? ⟨gL, off + k * 3 + 1, none⟩ = some (.int .i64 o.cut) := HC _ hB 1 (by decide)
      have d2 : wr.cell? ⟨gL, off + k * 3 + 2, none⟩ = some (.string o.mask) := HC _ hB 2 (by decide)
      have H3 : ∀ (w : World) (v : Value), w.ownsRow W.heap.size 38 3 v (k + 1) ((l.take k).flatMap stpV ++ stpV o) → w.ownsRow W.heap.size 38 3 v (k + 1) ((l.take (k + 1)).flatMap stpV) := fun w v h => by
        have e : l.take (k + 1) = l.take k ++ [o] := by rw [List.take_add_one, hoo]; rfl
        rw [e, List.flatMap_append, List.flatMap_singleton]; exact h
      replace H3 := Lib.hid H3
      clear HC hoo HL
      have j1 : (k : Int) < (l.length : Int) := by omega
      have j3 : (0 : Int) ≤ (k : Int) := by omega
      go_wp2_with (at_builtin; refine wpList_append_own _ rfl _ _ 48 rfl W.heap.size 38 i0 (.agg #[.int .u64 0, .int .i64 0, .string ⟨#[]⟩]) 3 32 Tryz.underlying48 hi hz0 hz1 hz2 rfl (by decide) _ _ _ rfl (hown.alloc _) ⟨wr.heap.size, 0, none⟩ 1 1 (stpV o) rfl rfl ?c1 ?c2 ?c3 ?c4 ?c5 ?_)
      case c1 => exact stp_news _ _ _
      case c2 => simp [Value.oneCell', stpV]
      case c3 => unfold maxLen; omega
      case c4 => omega
      case c5 => simp; omega
      intro v' w1 hown' hgrow _
      have hB' : Below W.heap.size W w1 := (hB.alloc hsz _).grown hgrow (by simp; omega) (fun j e => ((hown.lt j e).1))
      have H4 := Lib.hid (H3.out _ _ hown')
      clear hown' hown hgrow hB d0 d1 d2 H3
      go_wp2
      go_roundw
      case rel => exact ⟨k + 1, by omega, by go_num, H4.out, hB'⟩
      case measure => simp [intOf]; omega
    · obtain rfl : k = l.length := by omega
      rw [List.take_length] at hown
      obtain ⟨A', c', rfl, hO, hcc⟩ := rows_of_row (cv := stpV) (fun _ => rfl) hown
      clear hown HL
      go_wp2
      go_ret
      exact ⟨A', c', rfl, hO, hcc, hB⟩

end Go.Proofs.YthmpjoiifglbjaaGreat
namespace Go.Proofs.YthmpjoiifglbjaaGreat
open Go.ChangeShapes Go.WideShapes Go.ChangeAt Go.RowKit Go.ChangeMaps
set_option linter.unusedVariables false

theorem Tryz.cellsFl : Tryz.prog.cellsOf 25 = 5 := by kernel_rfl
theorem Tryz.cellsS2 : Tryz.prog.cellsOf 22 = 2 := by kernel_rfl
theorem Tryz.cellsI2 : Tryz.prog.cellsOf 23 = 2 := by kernel_rfl
set_option maxRecDepth 100000 in
theorem open_fl {H : Type} {enc : TypeId × Value → H} {W : World} {base : Nat} {v : Value} {d : DataW H} {p : List MemPlace}
    (hval : Value.okWide Tryz.prog W .any base 25 v) (h : DataW.Trod enc Tryz.prog W 0 (fun _ => true) true 25 v d p) :
    ∃ f : Fl, v = .agg #[.string f.b0, .string f.b1, .int .i64 f.e0, .int .i64 f.e1, .int .i64 f.lim] ∧ f.ok := by
  obtain ⟨cs, rfl, hsz⟩ := okWide_struct Tryz.underlying25 hval
  obtain ⟨l⟩ := cs
  match l, hsz.trans Tryz.cellsFl with
  | [c0, c1, c2, c3, c4], _ =>
    obtain ⟨fuel, hf⟩ := h
    obtain ⟨xs, n, _, hx, _, hlen, hg⟩ := DataW.trod_struct Tryz.underlying25 hf
    match xs, hlen with
    | [y0, y1, y2], _ =>
      have g0 : DataW.trod enc Tryz.prog W 0 (fun _ => true) true n 22 [c0, c1] = some y0 := by have := hg 0 _ rfl; simpa [Value.cells, Tryz.cellsS2] using this
      have g1 : DataW.trod enc Tryz.prog W 0 (fun _ => true) true n 23 [c2, c3] = some y1 := by have := hg 1 _ rfl; simpa [Value.cells, Tryz.cellsI2] using this
      have g2 : DataW.trod enc Tryz.prog W 0 (fun _ => true) true n 3 [c4] = some y2 := by have := hg 2 _ rfl; simpa [Value.cells, Tryz.cellsI] using this
      obtain ⟨xs0, m0, _, _, _, hl0, ha0⟩ := DataW.trod_array Tryz.underlying22 g0
      obtain ⟨xs1, m1, _, _, _, hl1, ha1⟩ := DataW.trod_array Tryz.underlying23 g1
      match xs0, hl0, xs1, hl1 with
      | [z0, z1], _, [z2, z3], _ =>
        have k0 : DataW.trod enc Tryz.prog W 0 (fun _ => true) true m0 9 [c0] = some z0 := by have := ha0 0 (by decide); simpa [Tryz.cellsS] using this
        have k1 : DataW.trod enc Tryz.prog W 0 (fun _ => true) true m0 9 [c1] = some z1 := by have := ha0 1 (by decide); simpa [Tryz.cellsS] using this
        have k2 : DataW.trod enc Tryz.prog W 0 (fun _ => true) true m1 3 [c2] = some z2 := by have := ha1 0 (by decide); simpa [Tryz.cellsI] using this
        have k3 : DataW.trod enc Tryz.prog W 0 (fun _ => true) true m1 3 [c3] = some z3 := by have := ha1 1 (by decide); simpa [Tryz.cellsI] using this
        obtain ⟨s0, e0, _, w0⟩ := DataW.trod_string Tryz.underlying9 k0
        obtain ⟨s1, e1, _, w1⟩ := DataW.trod_string Tryz.underlying9 k1
        obtain ⟨n2, e2, _, w2⟩ := DataW.trod_int Tryz.underlying3 k2
        obtain ⟨n3, e3, _, w3⟩ := DataW.trod_int Tryz.underlying3 k3
        obtain ⟨n4, e4, _, w4⟩ := DataW.trod_int Tryz.underlying3 g2
        cases e0; cases e1; cases e2; cases e3; cases e4
        exact ⟨⟨s0, s1, n2, n3, n4⟩, rfl, ⟨w0, w1, int_i64 w2, int_i64 w3, int_i64 w4⟩⟩
end Go.Proofs.YthmpjoiifglbjaaGreat

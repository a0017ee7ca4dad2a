/- The laws' own helpers of layer 4: contracts only. -/
import Derived.Test.YtoemjfjmpmngeabPowerOwn
import Derived.Test.YtoemjfjmpmngeabFlashOwn
import Derived.Test.YtoemjfjmpmngeabBox
import Derived.Test.YtoemjfjmpmngeabFlashEq
namespace Go.Proofs.Ytoemjfjmpmngeab
open Go.RowKit
set_option linter.unusedVariables false
attribute [local go_sem] eqS2 eqI2 eqS2t eqI2t

def bigB4 (f : Fl) (l : List PwOp) (m : ByteArray) : Bool :=
  (l.take 30).any (fun o => decide (300 < o.d.size)) || (decide (500 < f.b0.size) || decide (500 < f.b1.size) || decide (20 < l.length) || decide (600 < m.size))
theorem big4_ints (f : Fl) (n : Nat) (m : ByteArray) : (decide ((500 : Int) < (f.b0.size : Int)) || decide ((500 : Int) < (f.b1.size : Int)) || decide ((20 : Int) < (n : Int)) || decide ((600 : Int) < (m.size : Int))) = (decide (500 < f.b0.size) || decide (500 < f.b1.size) || decide (20 < n) || decide (600 < m.size)) := by
  rw [decide_eq_decide.2 (show (500 : Int) < (f.b0.size : Int) ↔ 500 < f.b0.size from by omega), decide_eq_decide.2 (show (500 : Int) < (f.b1.size : Int) ↔ 500 < f.b1.size from by omega), decide_eq_decide.2 (show (20 : Int) < (n : Int) ↔ 20 < n from by omega), decide_eq_decide.2 (show (600 : Int) < (m.size : Int) ↔ 600 < m.size from by omega)]

set_option maxRecDepth 100000 in
set_option maxHeartbeats 2000000 in
theorem big04 (f : Fl) (l : List PwOp) (A : Option Addr) (c : Nat) (m : ByteArray) (W : World) (hf : f.ok) (ho : ∀ o ∈ l, o.ok) (hl : OpsAt W A l) (hm : m.size ≤ maxLen) (hc : l.length ≤ c ∧ c ≤ maxLen) :
    Calls Try.prog 25 #[.agg #[.string f.b0, .string f.b1, .int .i64 f.e0, .int .i64 f.e1, .int .i64 f.lim], .slice A l.length c, .string m] W fun e W' => e = .returned (.bool (bigB4 f l m)) ∧ Below W.heap.size W W' := by
  obtain ⟨hs0, hs1, _, _, _⟩ := hf
  unfold maxLen at hs0 hs1 hm hc
  obtain ⟨hc1, hc2⟩ := hc
  have hB : Below W.heap.size W (W.alloc (.cells #[.string f.b0, .string f.b1, .int .i64 f.e0, .int .i64 f.e1, .int .i64 f.lim] 25)) := (Below.refl _ _).alloc (Nat.le_refl _) _
  replace hl := hl.seq hB
  have xf := Box.new 25 W [.string f.b0, .string f.b1, .int .i64 f.e0, .int .i64 f.e1, .int .i64 f.lim]
  go_enter Try.func25, Try.ntmps25
  go_wp2
  generalize W.alloc (.cells #[.string f.b0, .string f.b1, .int .i64 f.e0, .int .i64 f.e1, .int .i64 f.lim] 25) = V at *
  go_loop [7] (fun i => ∃ k : Nat, k ≤ l.length ∧ k ≤ 30 ∧ i = .int .i64 k ∧ ∀ j o, j < k → l[j]? = some o → o.d.size ≤ 300) (fun i => l.length - (intOf i).toNat)
  case atStart => exact ⟨0, by omega, by omega, rfl, fun j o h => by omega⟩
  case round =>
    obtain ⟨k, hk, hk3, rfl, hno⟩ := hrel
    replace hno := Lib.hid hno
    by_cases hlt : k < l.length
    · by_cases h30 : k < 30
      · obtain ⟨g, off, rfl, hg, hcells⟩ := hl (by omega)
        obtain ⟨o, hoo⟩ : ∃ o, l[k]? = some o := ⟨_, List.getElem?_eq_getElem hlt⟩
        obtain ⟨c0, c1, c2, c3⟩ := hcells k o hoo
        clear hcells
        have hod : o.d.size ≤ 2 ^ 63 - 1 := (ho o (List.mem_of_getElem? hoo)).sd
        by_cases hbig : 300 < o.d.size
        · have H := Lib.hid (show bigB4 f l m = true from by
            unfold bigB4
            rw [Bool.or_eq_true]
            left
            rw [List.any_eq_true]
            exact ⟨o, List.mem_of_getElem? (by rw [List.getElem?_take, if_pos h30]; exact hoo), by simpa using hbig⟩)
          clear hoo
          go_wp2
          go_ret
          exact ⟨ret_bool H.out.symm, hB⟩
        · have hno2 := Lib.hid (show ∀ j o, j < k + 1 → l[j]? = some o → o.d.size ≤ 300 from fun j o' hj hjo => by
            rcases Nat.lt_or_ge j k with h | h
            · exact hno.out j o' h hjo
            · obtain rfl : j = k := by omega
              rw [hoo] at hjo
              cases hjo; omega)
          clear hoo
          go_wp2
          go_round
          case rel => exact ⟨k + 1, by omega, by omega, by go_num, hno2.out⟩
          case measure => simp [intOf]; omega
      · have HN := Lib.hid (show (l.take 30).any (fun o => decide (300 < o.d.size)) = false from by
          rw [List.any_eq_false]
          intro o h
          obtain ⟨j, hj, rfl⟩ := List.mem_iff_getElem.1 h
          have hj2 := hj
          rw [List.length_take] at hj2
          have := hno.out j (l.take 30)[j] (by omega) (by rw [List.getElem_take]; exact List.getElem?_eq_getElem (by omega))
          simpa using this)
        clear hl
        obtain ⟨c0, c1⟩ := (⟨xf.cell 0 rfl, xf.cell 1 rfl⟩ : _ ∧ _)
        have e0 := big4_ints f l.length m
        replace e0 := Lib.hid e0
        have f1 : decide ((500 : Int) < (f.b0.size : Int)) = decide (500 < f.b0.size) := decide_eq_decide.2 (by omega)
        have f2 : decide ((500 : Int) < (f.b1.size : Int)) = decide (500 < f.b1.size) := decide_eq_decide.2 (by omega)
        have f3 : decide ((20 : Int) < (l.length : Int)) = decide (20 < l.length) := decide_eq_decide.2 (by omega)
        have f4 : decide ((600 : Int) < (m.size : Int)) = decide (600 < m.size) := decide_eq_decide.2 (by omega)
        clear hno
        go_wp2
        all_goals
          go_ret
          exact ⟨ret_bool (by rw [bigB4, HN.out]; simp_all), hB⟩
    · have HN := Lib.hid (show (l.take 30).any (fun o => decide (300 < o.d.size)) = false from by
        rw [List.any_eq_false]
        intro o h
        obtain ⟨j, hj, rfl⟩ := List.mem_iff_getElem.1 h
        have hj2 := hj
        rw [List.length_take] at hj2
        have := hno.out j (l.take 30)[j] (by omega) (by rw [List.getElem_take]; exact List.getElem?_eq_getElem (by omega))
        simpa using this)
      clear hl
      obtain ⟨c0, c1⟩ := (⟨xf.cell 0 rfl, xf.cell 1 rfl⟩ : _ ∧ _)
      have e0 := big4_ints f l.length m
      replace e0 := Lib.hid e0
      have f1 : decide ((500 : Int) < (f.b0.size : Int)) = decide (500 < f.b0.size) := decide_eq_decide.2 (by omega)
      have f2 : decide ((500 : Int) < (f.b1.size : Int)) = decide (500 < f.b1.size) := decide_eq_decide.2 (by omega)
      have f3 : decide ((20 : Int) < (l.length : Int)) = decide (20 < l.length) := decide_eq_decide.2 (by omega)
      have f4 : decide ((600 : Int) < (m.size : Int)) = decide (600 < m.size) := decide_eq_decide.2 (by omega)
      clear hno
      go_wp2
      all_goals
        go_ret
        exact ⟨ret_bool (by rw [bigB4, HN.out]; simp_all), hB⟩
theorem bigB4_no {f : Fl} {o : PwOp} {m : ByteArray} (h : bigB4 f [o] m = false) : f.b0.size ≤ 500 ∧ f.b1.size ≤ 500 ∧ o.d.size ≤ 300 ∧ m.size ≤ 600 := by
  unfold bigB4 at h
  simp at h
  omega

def sh4F : Fl := (⟨⟨#[255, 255, 255, 255]⟩, ⟨#[255, 255, 255, 255]⟩, 0, 0, 3⟩ : Fl)
def sh4L : List PwOp := [⟨1, 0, 2, ⟨#[0, 0]⟩⟩, ⟨2, 0, 0, ⟨#[]⟩⟩]
theorem sh4_ok : sh4F.ok := ⟨by decide, by decide, by decide, by decide, by decide⟩
theorem sh4_fit : sh4F.fit := ⟨sh4_ok, by decide, by decide⟩
theorem sh4_ops : ∀ o ∈ sh4L, o.ok := by
  intro o ho
  rcases List.mem_cons.1 ho with rfl | ho
  · exact ⟨by decide, by decide, by decide, by decide⟩
  · rcases List.mem_cons.1 ho with rfl | ho
    · exact ⟨by decide, by decide, by decide, by decide⟩
    · cases ho
theorem sh4_1 : playR sh4F sh4L 0 ⟨#[15]⟩ = (⟨⟨#[255, 255, 240, 255]⟩, ⟨#[255, 255, 255, 255]⟩, 0, 0, 3⟩, 0, 0) := by kernel_rfl
theorem sh4_2 : playR sh4F sh4L 1 ⟨#[0, 0, 1]⟩ = (⟨⟨#[255, 255, 255, 0]⟩, ⟨#[255, 255, 255, 255]⟩, 1, 0, 3⟩, 1, 0) := by kernel_rfl

set_option maxRecDepth 100000 in
set_option maxHeartbeats 4000000 in
theorem shown04 (W : World) : Calls Try.prog 26 #[] W fun e W' => e = .returned (.bool true) ∧ Below W.heap.size W W' := by
  have TN := Lib.hid (fun (W : World) => (show Calls Try.prog 20 #[.int .i64 4, .int .i64 3] W fun e W' => e = .returned (.agg #[.string ⟨#[255, 255, 255, 255]⟩, .string ⟨#[255, 255, 255, 255]⟩, .int .i64 0, .int .i64 0, .int .i64 3]) ∧ Below W.heap.size W W' from by
    have h := flNew 4 3 W
    rwa [show newF 4 3 = sh4F from by kernel_rfl] at h))
  have T1 := Lib.hid (fun (W : World) (g : Nat) (hl : OpsAt W (some ⟨g, 0, none⟩) sh4L) => (show Calls Try.prog 30 #[.agg #[.string ⟨#[255, 255, 255, 255]⟩, .string ⟨#[255, 255, 255, 255]⟩, .int .i64 0, .int .i64 0, .int .i64 3], .slice (some ⟨g, 0, none⟩) 2 2, .int .i64 0, .string ⟨#[15]⟩] W fun e W' => e = .returned (.tuple #[.agg #[.string ⟨#[255, 255, 240, 255]⟩, .string ⟨#[255, 255, 255, 255]⟩, .int .i64 0, .int .i64 0, .int .i64 3], .int .i64 0, .int .i64 0]) ∧ Below W.heap.size W W' from by
    have h := own04Play sh4F sh4L (some ⟨g, 0, none⟩) 2 0 ⟨#[15]⟩ W sh4_fit sh4_ops hl (by decide) ⟨Nat.le_refl _, by decide⟩
    rwa [sh4_1] at h))
  have T2 := Lib.hid (fun (W : World) (g : Nat) (hl : OpsAt W (some ⟨g, 0, none⟩) sh4L) => (show Calls Try.prog 30 #[.agg #[.string ⟨#[255, 255, 255, 255]⟩, .string ⟨#[255, 255, 255, 255]⟩, .int .i64 0, .int .i64 0, .int .i64 3], .slice (some ⟨g, 0, none⟩) 2 2, .int .i64 1, .string ⟨#[0, 0, 1]⟩] W fun e W' => e = .returned (.tuple #[.agg #[.string ⟨#[255, 255, 255, 0]⟩, .string ⟨#[255, 255, 255, 255]⟩, .int .i64 1, .int .i64 0, .int .i64 3], .int .i64 1, .int .i64 0]) ∧ Below W.heap.size W W' from by
    have h := own04Play sh4F sh4L (some ⟨g, 0, none⟩) 2 1 ⟨#[0, 0, 1]⟩ W sh4_fit sh4_ops hl (by decide) ⟨Nat.le_refl _, by decide⟩
    rwa [sh4_2] at h))
  have T3 := Lib.hid (fun (W : World) => (show Calls Try.prog 29 #[.agg #[.string ⟨#[255, 255, 255, 255]⟩, .string ⟨#[255, 255, 255, 255]⟩, .int .i64 0, .int .i64 0, .int .i64 3], .agg #[.int .i64 3, .int .i64 0, .int .i64 0, .string ⟨#[]⟩]] W fun e W' => e = .returned (.tuple #[.agg #[.string ⟨#[255, 255, 255, 255]⟩, .string ⟨#[255, 255, 255, 255]⟩, .int .i64 0, .int .i64 0, .int .i64 3], .int .i64 1]) ∧ Below W.heap.size W W' from by
    have h := own04Do sh4F ⟨3, 0, 0, ⟨#[]⟩⟩ W sh4_fit ⟨by decide, by decide, by decide, by decide⟩
    exact h))
  go_enter Try.func26, Try.ntmps26
  go_wp2_with fail
  refine (TN.out _).mono ?_
  rintro e W1 ⟨rfl, hB⟩
  have xf := ((Box.new 25 W1 [.string ⟨#[255, 255, 255, 255]⟩, .string ⟨#[255, 255, 255, 255]⟩, .int .i64 0, .int .i64 0, .int .i64 3]).alloc (.cells #[.int .i64 1, .int .i64 0, .int .i64 2, .string ⟨#[0, 0]⟩] 43)).alloc (.cells #[.int .i64 1, .int .i64 0, .int .i64 2, .string ⟨#[0, 0]⟩, .int .i64 2, .int .i64 0, .int .i64 0, .string ⟨#[]⟩] 43)
  have xp : Box 43 (((W1.alloc (.cells #[.string ⟨#[255, 255, 255, 255]⟩, .string ⟨#[255, 255, 255, 255]⟩, .int .i64 0, .int .i64 0, .int .i64 3] 25)).alloc (.cells #[.int .i64 1, .int .i64 0, .int .i64 2, .string ⟨#[0, 0]⟩] 43)).alloc (.cells #[.int .i64 1, .int .i64 0, .int .i64 2, .string ⟨#[0, 0]⟩, .int .i64 2, .int .i64 0, .int .i64 0, .string ⟨#[]⟩] 43)) (W1.heap.size + 1) [.int .i64 1, .int .i64 0, .int .i64 2, .string ⟨#[0, 0]⟩] := by have h := (Box.new 43 (W1.alloc (.cells #[.string ⟨#[255, 255, 255, 255]⟩, .string ⟨#[255, 255, 255, 255]⟩, .int .i64 0, .int .i64 0, .int .i64 3] 25)) [.int .i64 1, .int .i64 0, .int .i64 2, .string ⟨#[0, 0]⟩]).alloc (.cells #[.int .i64 1, .int .i64 0, .int .i64 2, .string ⟨#[0, 0]⟩, .int .i64 2, .int .i64 0, .int .i64 0, .string ⟨#[]⟩] 43); rwa [World.size_alloc] at h
  have hl : OpsAt (((W1.alloc (.cells #[.string ⟨#[255, 255, 255, 255]⟩, .string ⟨#[255, 255, 255, 255]⟩, .int .i64 0, .int .i64 0, .int .i64 3] 25)).alloc (.cells #[.int .i64 1, .int .i64 0, .int .i64 2, .string ⟨#[0, 0]⟩] 43)).alloc (.cells #[.int .i64 1, .int .i64 0, .int .i64 2, .string ⟨#[0, 0]⟩, .int .i64 2, .int .i64 0, .int .i64 0, .string ⟨#[]⟩] 43)) (some ⟨W1.heap.size + 1 + 1, 0, none⟩) sh4L := by have h := OpsAt.lit ((W1.alloc (.cells #[.string ⟨#[255, 255, 255, 255]⟩, .string ⟨#[255, 255, 255, 255]⟩, .int .i64 0, .int .i64 0, .int .i64 3] 25)).alloc (.cells #[.int .i64 1, .int .i64 0, .int .i64 2, .string ⟨#[0, 0]⟩] 43)) 43 sh4L; rwa [World.size_alloc, World.size_alloc] at h
  replace hB := ((hB.alloc hB.size (.cells #[.string ⟨#[255, 255, 255, 255]⟩, .string ⟨#[255, 255, 255, 255]⟩, .int .i64 0, .int .i64 0, .int .i64 3] 25)).alloc (by have := hB.size; simp; omega) (.cells #[.int .i64 1, .int .i64 0, .int .i64 2, .string ⟨#[0, 0]⟩] 43)).alloc (by have := hB.size; simp; omega) (.cells #[.int .i64 1, .int .i64 0, .int .i64 2, .string ⟨#[0, 0]⟩, .int .i64 2, .int .i64 0, .int .i64 0, .string ⟨#[]⟩] 43)
  go_wp2_with fail
  refine (T1.out _ _ hl).mono ?_
  rintro e W2 ⟨rfl, k2⟩
  clear hl
  replace hB := below_seq hB k2
  replace xf := (xf.seq k2).alloc (.cells #[.string ⟨#[255, 255, 240, 255]⟩, .string ⟨#[255, 255, 255, 255]⟩, .int .i64 0, .int .i64 0, .int .i64 3] 25)
  replace xp := (xp.seq k2).alloc (.cells #[.string ⟨#[255, 255, 240, 255]⟩, .string ⟨#[255, 255, 255, 255]⟩, .int .i64 0, .int .i64 0, .int .i64 3] 25)
  clear k2
  have xa := Box.new 25 W2 [.string ⟨#[255, 255, 240, 255]⟩, .string ⟨#[255, 255, 255, 255]⟩, .int .i64 0, .int .i64 0, .int .i64 3]
  replace hB := hB.alloc hB.size (.cells #[.string ⟨#[255, 255, 240, 255]⟩, .string ⟨#[255, 255, 255, 255]⟩, .int .i64 0, .int .i64 0, .int .i64 3] 25)
  have xf0 := xf.cell 0 rfl
  have xf1 := xf.cell 1 rfl
  have xf2 := xf.cell 2 rfl
  have xf3 := xf.cell 3 rfl
  have xf4 := xf.cell 4 rfl
  have xp0 := xp.cell 0 rfl
  have xp1 := xp.cell 1 rfl
  have xp2 := xp.cell 2 rfl
  have xp3 := xp.cell 3 rfl
  have hl : OpsAt ((W2.alloc (.cells #[.string ⟨#[255, 255, 240, 255]⟩, .string ⟨#[255, 255, 255, 255]⟩, .int .i64 0, .int .i64 0, .int .i64 3] 25)).alloc (.cells #[.int .i64 1, .int .i64 0, .int .i64 2, .string ⟨#[0, 0]⟩, .int .i64 2, .int .i64 0, .int .i64 0, .string ⟨#[]⟩] 43)) (some ⟨W2.heap.size + 1, 0, none⟩) sh4L := by have h := OpsAt.lit (W2.alloc (.cells #[.string ⟨#[255, 255, 240, 255]⟩, .string ⟨#[255, 255, 255, 255]⟩, .int .i64 0, .int .i64 0, .int .i64 3] 25)) 43 sh4L; rwa [World.size_alloc] at h
  go_wp2_with fail
  refine (T2.out _ _ hl).mono ?_
  rintro e W3 ⟨rfl, k3⟩
  clear hl xf0 xf1 xf2 xf3 xf4 xp0 xp1 xp2 xp3 xp
  replace hB := below_seq (hB.alloc hB.size (.cells #[.int .i64 1, .int .i64 0, .int .i64 2, .string ⟨#[0, 0]⟩, .int .i64 2, .int .i64 0, .int .i64 0, .string ⟨#[]⟩] 43)) k3
  replace xf := ((xf.alloc (.cells #[.int .i64 1, .int .i64 0, .int .i64 2, .string ⟨#[0, 0]⟩, .int .i64 2, .int .i64 0, .int .i64 0, .string ⟨#[]⟩] 43)).seq k3).alloc (.cells #[.string ⟨#[255, 255, 255, 0]⟩, .string ⟨#[255, 255, 255, 255]⟩, .int .i64 1, .int .i64 0, .int .i64 3] 25)
  replace xa := ((xa.alloc (.cells #[.int .i64 1, .int .i64 0, .int .i64 2, .string ⟨#[0, 0]⟩, .int .i64 2, .int .i64 0, .int .i64 0, .string ⟨#[]⟩] 43)).seq k3).alloc (.cells #[.string ⟨#[255, 255, 255, 0]⟩, .string ⟨#[255, 255, 255, 255]⟩, .int .i64 1, .int .i64 0, .int .i64 3] 25)
  clear k3
  have xb := Box.new 25 W3 [.string ⟨#[255, 255, 255, 0]⟩, .string ⟨#[255, 255, 255, 255]⟩, .int .i64 1, .int .i64 0, .int .i64 3]
  replace hB := hB.alloc hB.size (.cells #[.string ⟨#[255, 255, 255, 0]⟩, .string ⟨#[255, 255, 255, 255]⟩, .int .i64 1, .int .i64 0, .int .i64 3] 25)
  have xf0 := xf.cell 0 rfl
  have xf1 := xf.cell 1 rfl
  have xf2 := xf.cell 2 rfl
  have xf3 := xf.cell 3 rfl
  have xf4 := xf.cell 4 rfl
  go_wp2_with fail
  refine (T3.out _).mono ?_
  rintro e W4 ⟨rfl, k4⟩
  clear xf0 xf1 xf2 xf3 xf4
  replace hB := below_seq hB k4
  replace xf := (xf.seq k4).alloc (.cells #[.string ⟨#[255, 255, 255, 255]⟩, .string ⟨#[255, 255, 255, 255]⟩, .int .i64 0, .int .i64 0, .int .i64 3] 25)
  replace xa := (xa.seq k4).alloc (.cells #[.string ⟨#[255, 255, 255, 255]⟩, .string ⟨#[255, 255, 255, 255]⟩, .int .i64 0, .int .i64 0, .int .i64 3] 25)
  replace xb := (xb.seq k4).alloc (.cells #[.string ⟨#[255, 255, 255, 255]⟩, .string ⟨#[255, 255, 255, 255]⟩, .int .i64 0, .int .i64 0, .int .i64 3] 25)
  clear k4
  have xc := Box.new 25 W4 [.string ⟨#[255, 255, 255, 255]⟩, .string ⟨#[255, 255, 255, 255]⟩, .int .i64 0, .int .i64 0, .int .i64 3]
  replace hB := hB.alloc hB.size (.cells #[.string ⟨#[255, 255, 255, 255]⟩, .string ⟨#[255, 255, 255, 255]⟩, .int .i64 0, .int .i64 0, .int .i64 3] 25)
  have xf0 := xf.cell 0 rfl
  have xf1 := xf.cell 1 rfl
  have xf2 := xf.cell 2 rfl
  have xf3 := xf.cell 3 rfl
  have xf4 := xf.cell 4 rfl
  have xa0 := xa.cell 0 rfl
  have xa1 := xa.cell 1 rfl
  have xa2 := xa.cell 2 rfl
  have xa3 := xa.cell 3 rfl
  have xa4 := xa.cell 4 rfl
  have xb0 := xb.cell 0 rfl
  have xb1 := xb.cell 1 rfl
  have xb2 := xb.cell 2 rfl
  have xb3 := xb.cell 3 rfl
  have xb4 := xb.cell 4 rfl
  have xc0 := xc.cell 0 rfl
  have xc1 := xc.cell 1 rfl
  have xc2 := xc.cell 2 rfl
  have xc3 := xc.cell 3 rfl
  have xc4 := xc.cell 4 rfl
  go_wp2
  go_ret
  exact ⟨rfl, hB⟩
end Go.Proofs.Ytoemjfjmpmngeab

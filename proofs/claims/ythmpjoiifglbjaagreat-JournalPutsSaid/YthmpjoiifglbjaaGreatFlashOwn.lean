/- The program's own New, Program, Erase and Blank of layer 3, and the statements' small helpers: contracts only. -/
import Derived.Test.YthmpjoiifglbjaaGreatClear
import Derived.Test.YthmpjoiifglbjaaGreatShelf
import Derived.Test.YthmpjoiifglbjaaGreatPlain
import Derived.Test.YthmpjoiifglbjaaGreatFlashRead
import Derived.Test.YthmpjoiifglbjaaGreatFlashRef
import Derived.Test.YthmpjoiifglbjaaGreatFlashPlain
import Derived.Test.YthmpjoiifglbjaaGreatBs
import Derived.Deep.RegionHeld3
namespace Go.Proofs.YthmpjoiifglbjaaGreat
open Go.RowKit
set_option linter.unusedVariables false
set_option linter.unusedSimpArgs false

theorem blankB_iff (s : ByteArray) : blankB s = true ↔ ∀ i (h : i < s.size), s[i] = 255 := by
  unfold blankB bl
  rw [List.all_eq_true]
  constructor
  · intro h i hi
    exact beq_iff_eq.1 (h (s.data[i]'hi) (Array.mem_toList_iff.2 (Array.getElem_mem _)))
  · intro h b hb
    obtain ⟨i, hi, rfl⟩ := Array.mem_iff_getElem.1 (Array.mem_toList_iff.1 hb)
    have := h i hi
    exact beq_iff_eq.2 this

set_option maxRecDepth 100000 in
set_option maxHeartbeats 1000000 in
theorem flBlank (s : ByteArray) (W : World) (hs : s.size ≤ maxLen) :
    Calls Tryz.prog 129 #[.string s] W fun e W' => e = .returned (.bool (blankB s)) ∧ Below W.heap.size W W' := by
  unfold maxLen at hs
  have HB := Lib.hid (blankB_iff s)
  go_enter Tryz.func129, Tryz.ntmps129
  go_wp2
  go_loop [6] (fun i => ∃ k : Nat, k ≤ s.size ∧ i = .int .i64 k ∧ ∀ j (h : j < s.size), j < k → s[j] = 255)
    (fun i => s.size - (intOf i).toNat)
  case atStart => exact ⟨0, Nat.zero_le _, rfl, fun j _ h => absurd h (by omega)⟩
  case round =>
    obtain ⟨k, hk, rfl, hall⟩ := hrel
    by_cases hlt : k < s.size
    · by_cases hb : s[k] = 255
      · have hall2 : ∀ j (h : j < s.size), j < k + 1 → s[j] = 255 := fun j h hj => by
          rcases Nat.lt_succ_iff_lt_or_eq.1 hj with h1 | rfl
          · exact hall j h h1
          · exact hb
        have hb2 : (((s[k]).toNat : Int) != 255) = false := by rw [hb]; rfl
        have H := Lib.hid hall2
        clear hall hall2 hb
        go_wp2
        go_round
        case rel => exact ⟨k + 1, by omega, by go_num, H.out⟩
        case measure => simp [intOf]; omega
      · have hb2 : (((s[k]).toNat : Int) != 255) = true := by
          rw [bne_iff_ne]; intro h; exact hb (UInt8.toNat_inj.1 (by have : (255 : UInt8).toNat = 255 := rfl; omega))
        have hf : blankB s = false := by
          rw [← Bool.not_eq_true]; intro h; exact hb (HB.out.1 h k hlt)
        have HF := Lib.hid hf.symm
        clear hf hb hall
        go_wp2
        go_ret
        exact ⟨ret_bool HF.out, Below.refl _ _⟩
    · have hf : blankB s = true := HB.out.2 fun i hi => hall i hi (by omega)
      have HF := Lib.hid hf.symm
      clear hf hall
      go_wp2
      go_ret
      exact ⟨ret_bool HF.out, Below.refl _ _⟩

theorem repeat255 (n : Nat) : (⟨(Lib.repeatL [255] n).toArray⟩ : ByteArray) = blankT n := by
  have := Lib.repeatL_replicate 255 1 n
  rw [Nat.mul_one] at this
  show bs (Lib.repeatL (List.replicate 1 255) n) = _
  rw [this]
  rfl

set_option maxRecDepth 100000 in
set_option maxHeartbeats 1000000 in
theorem flBlanks (n : Nat) (W : World) (hn : n ≤ 140737488351232) :
    Calls Tryz.prog 30 #[.int .i64 n] W fun e W' => e = .returned (.string (blankT n)) ∧ Below W.heap.size W W' := by
  have hcv : (convert 108 9 (.slice (some ⟨W.heap.size, 0, none⟩) 1 1)).run Tryz.prog (W.alloc (.cells #[.int .u8 255] 5)) = .ok (.string ⟨#[255]⟩) (W.alloc (.cells #[.int .u8 255] 5)) :=
    one_string Tryz.underlying108 Tryz.underlying5 Tryz.underlying9 W 255
  have hlen : (⟨#[255]⟩ : ByteArray).size * n ≤ 140737488355328 := by rw [show (⟨#[255]⟩ : ByteArray).size = 1 from rfl]; omega
  go_enter Tryz.func30, Tryz.ntmps30
  go_wp2_with fail
  refine (Tryz.strings_Repeat _ _ _ (by omega) hlen).mono ?_
  rintro e W2 ⟨rfl, k⟩
  replace k := below_seq ((Below.refl _ W).alloc (Nat.le_refl _) _) k
  rw [repeat255]
  go_wp2
  go_ret
  exact ⟨rfl, k⟩

set_option maxRecDepth 100000 in
set_option maxHeartbeats 1000000 in
theorem flEraseArg (f : Fl) (bank : Int) (h0 : bank ≠ 0) (h1 : bank ≠ 1) (W : World) :
    Gives Tryz.prog 64 #[.agg #[.string f.b0, .string f.b1, .int .i64 f.e0, .int .i64 f.e1, .int .i64 f.lim], .int .i64 bank] W (.tuple #[.agg #[.string f.b0, .string f.b1, .int .i64 f.e0, .int .i64 f.e1, .int .i64 f.lim], .int .i64 1]) := by
  have TR := Lib.hid (fun (W : World) => flReadArg f bank 0 0 h0 h1 W)
  have st := Bs.in2 W 25 [.string f.b0, .string f.b1, .int .i64 f.e0, .int .i64 f.e1, .int .i64 f.lim] 25 [.string ⟨#[]⟩, .string ⟨#[]⟩, .int .i64 0, .int .i64 0, .int .i64 0]
  go_enter Tryz.func64, Tryz.ntmps64
  have fc := And.intro (st.box 1 rfl).f5 (st.box 0 rfl).f5
  go_wp2_with fail; refine callB st (TR.out _) ?_; clear st fc; intro V1 st
  have fc := And.intro (st.box 1 rfl).f5 (st.box 0 rfl).f5
  go_wp2
  clear fc
  replace st := st.put5 0 (.string f.b0) (.string f.b1) (.int .i64 f.e0) (.int .i64 f.e1) (.int .i64 f.lim) rfl; obtain ⟨V2, hV, st⟩ := st; rw [hV]; clear hV
  have fc := And.intro (st.box 1 rfl).f5 (st.box 0 rfl).f5
  exact bodyPost_ret (v := .tuple #[.agg #[.string f.b0, .string f.b1, .int .i64 f.e0, .int .i64 f.e1, .int .i64 f.lim], .int .i64 1]) (by simp [results, Tryz.results64, go_sem, fc]) rfl ⟨rfl, st.lo⟩

set_option maxRecDepth 100000 in
set_option maxHeartbeats 1000000 in
theorem flEraseWorn0 (f : Fl) (hs : f.b0.size ≤ maxLen) (h : f.lim ≤ f.e0) (W : World) :
    Gives Tryz.prog 64 #[.agg #[.string f.b0, .string f.b1, .int .i64 f.e0, .int .i64 f.e1, .int .i64 f.lim], .int .i64 0] W (.tuple #[.agg #[.string f.b0, .string f.b1, .int .i64 f.e0, .int .i64 f.e1, .int .i64 f.lim], .int .i64 4]) := by
  have TR := Lib.hid (fun (W : World) => flReadOk0 f 0 0 hs (Nat.zero_le _) W)
  have hge : f.e0 ≥ f.lim := h
  have st := Bs.in2 W 25 [.string f.b0, .string f.b1, .int .i64 f.e0, .int .i64 f.e1, .int .i64 f.lim] 25 [.string ⟨#[]⟩, .string ⟨#[]⟩, .int .i64 0, .int .i64 0, .int .i64 0]
  go_enter Tryz.func64, Tryz.ntmps64
  have fc := And.intro (st.box 1 rfl).f5 (st.box 0 rfl).f5
  go_wp2_with fail; refine callB st (TR.out _) ?_; clear st fc; intro V1 st
  have fc := And.intro (st.box 1 rfl).f5 (st.box 0 rfl).f5
  go_wp2_with fail; go_region
  clear fc
  replace st := st.drew
  generalize V1.drew = V2 at *
  have fc := And.intro (st.box 1 rfl).f5 (st.box 0 rfl).f5
  go_wp2
  clear fc
  replace st := st.put5 0 (.string f.b0) (.string f.b1) (.int .i64 f.e0) (.int .i64 f.e1) (.int .i64 f.lim) rfl; obtain ⟨V3, hV, st⟩ := st; rw [hV]; clear hV
  have fc := And.intro (st.box 1 rfl).f5 (st.box 0 rfl).f5
  exact bodyPost_ret (v := .tuple #[.agg #[.string f.b0, .string f.b1, .int .i64 f.e0, .int .i64 f.e1, .int .i64 f.lim], .int .i64 4]) (by simp [results, Tryz.results64, go_sem, fc]) rfl ⟨rfl, st.lo⟩

set_option maxRecDepth 100000 in
set_option maxHeartbeats 1000000 in
theorem flEraseOk0 (f : Fl) (hs : f.b0.size ≤ 140737488351232) (hl : f.lim ≤ 9223372036854775807) (he : -9223372036854775808 ≤ f.e0) (h : f.e0 < f.lim) (W : World) :
    Gives Tryz.prog 64 #[.agg #[.string f.b0, .string f.b1, .int .i64 f.e0, .int .i64 f.e1, .int .i64 f.lim], .int .i64 0] W (.tuple #[.agg #[.string (blankT f.b0.size), .string f.b1, .int .i64 (f.e0 + 1), .int .i64 f.e1, .int .i64 f.lim], .int .i64 0]) := by
  have TR := Lib.hid (fun (W : World) => flReadOk0 f 0 0 (by unfold maxLen; omega) (Nat.zero_le _) W)
  have hge : ¬ f.e0 ≥ f.lim := by omega
  have w0 : -9223372036854775808 ≤ f.e0 + 1 := by omega
  have w1 : f.e0 + 1 ≤ 9223372036854775807 := by omega
  have st := Bs.in2 W 25 [.string f.b0, .string f.b1, .int .i64 f.e0, .int .i64 f.e1, .int .i64 f.lim] 25 [.string ⟨#[]⟩, .string ⟨#[]⟩, .int .i64 0, .int .i64 0, .int .i64 0]
  go_enter Tryz.func64, Tryz.ntmps64
  have fc := And.intro (st.box 1 rfl).f5 (st.box 0 rfl).f5
  go_wp2_with fail; refine callB st (TR.out _) ?_; clear st fc; intro V1 st
  have fc := And.intro (st.box 1 rfl).f5 (st.box 0 rfl).f5
  go_wp2_with fail; go_region
  clear fc
  replace st := st.drew
  generalize V1.drew = V2 at *
  have fc := And.intro (st.box 1 rfl).f5 (st.box 0 rfl).f5
  go_wp2_with fail; refine callB st (flBlanks f.b0.size _ hs) ?_; clear st fc; intro V3 st
  have fc := And.intro (st.box 1 rfl).f5 (st.box 0 rfl).f5
  go_wp2
  clear fc
  replace st := ((st.set 1 0 (.string (blankT f.b0.size)) rfl).set 1 2 (.int .i64 (f.e0 + 1)) rfl).name; obtain ⟨V4, hV, st⟩ := st; rw [hV]; clear hV
  have fc := And.intro (st.box 1 rfl).f5 (st.box 0 rfl).f5
  go_wp2
  clear fc
  replace st := st.put5 0 (.string (blankT f.b0.size)) (.string f.b1) (.int .i64 (f.e0 + 1)) (.int .i64 f.e1) (.int .i64 f.lim) rfl; obtain ⟨V5, hV, st⟩ := st; rw [hV]; clear hV
  have fc := And.intro (st.box 1 rfl).f5 (st.box 0 rfl).f5
  exact bodyPost_ret (v := .tuple #[.agg #[.string (blankT f.b0.size), .string f.b1, .int .i64 (f.e0 + 1), .int .i64 f.e1, .int .i64 f.lim], .int .i64 0]) (by simp [results, Tryz.results64, go_sem, fc]) rfl ⟨rfl, st.lo⟩

set_option maxRecDepth 100000 in
set_option maxHeartbeats 1000000 in
theorem flEraseWorn1 (f : Fl) (hs : f.b1.size ≤ maxLen) (h : f.lim ≤ f.e1) (W : World) :
    Gives Tryz.prog 64 #[.agg #[.string f.b0, .string f.b1, .int .i64 f.e0, .int .i64 f.e1, .int .i64 f.lim], .int .i64 1] W (.tuple #[.agg #[.string f.b0, .string f.b1, .int .i64 f.e0, .int .i64 f.e1, .int .i64 f.lim], .int .i64 4]) := by
  have TR := Lib.hid (fun (W : World) => flReadOk1 f 0 0 hs (Nat.zero_le _) W)
  have hge : f.e1 ≥ f.lim := h
  have st := Bs.in2 W 25 [.string f.b0, .string f.b1, .int .i64 f.e0, .int .i64 f.e1, .int .i64 f.lim] 25 [.string ⟨#[]⟩, .string ⟨#[]⟩, .int .i64 0, .int .i64 0, .int .i64 0]
  go_enter Tryz.func64, Tryz.ntmps64
  have fc := And.intro (st.box 1 rfl).f5 (st.box 0 rfl).f5
  go_wp2_with fail; refine callB st (TR.out _) ?_; clear st fc; intro V1 st
  have fc := And.intro (st.box 1 rfl).f5 (st.box 0 rfl).f5
  go_wp2_with fail; go_region
  clear fc
  replace st := st.drew
  generalize V1.drew = V2 at *
  have fc := And.intro (st.box 1 rfl).f5 (st.box 0 rfl).f5
  go_wp2
  clear fc
  replace st := st.put5 0 (.string f.b0) (.string f.b1) (.int .i64 f.e0) (.int .i64 f.e1) (.int .i64 f.lim) rfl; obtain ⟨V3, hV, st⟩ := st; rw [hV]; clear hV
  have fc := And.intro (st.box 1 rfl).f5 (st.box 0 rfl).f5
  exact bodyPost_ret (v := .tuple #[.agg #[.string f.b0, .string f.b1, .int .i64 f.e0, .int .i64 f.e1, .int .i64 f.lim], .int .i64 4]) (by simp [results, Tryz.results64, go_sem, fc]) rfl ⟨rfl, st.lo⟩

set_option maxRecDepth 100000 in
set_option maxHeartbeats 1000000 in
theorem flEraseOk1 (f : Fl) (hs : f.b1.size ≤ 140737488351232) (hl : f.lim ≤ 9223372036854775807) (he : -9223372036854775808 ≤ f.e1) (h : f.e1 < f.lim) (W : World) :
    Gives Tryz.prog 64 #[.agg #[.string f.b0, .string f.b1, .int .i64 f.e0, .int .i64 f.e1, .int .i64 f.lim], .int .i64 1] W (.tuple #[.agg #[.string f.b0, .string (blankT f.b1.size), .int .i64 f.e0, .int .i64 (f.e1 + 1), .int .i64 f.lim], .int .i64 0]) := by
  have TR := Lib.hid (fun (W : World) => flReadOk1 f 0 0 (by unfold maxLen; omega) (Nat.zero_le _) W)
  have hge : ¬ f.e1 ≥ f.lim := by omega
  have w0 : -9223372036854775808 ≤ f.e1 + 1 := by omega
  have w1 : f.e1 + 1 ≤ 9223372036854775807 := by omega
  have st := Bs.in2 W 25 [.string f.b0, .string f.b1, .int .i64 f.e0, .int .i64 f.e1, .int .i64 f.lim] 25 [.string ⟨#[]⟩, .string ⟨#[]⟩, .int .i64 0, .int .i64 0, .int .i64 0]
  go_enter Tryz.func64, Tryz.ntmps64
  have fc := And.intro (st.box 1 rfl).f5 (st.box 0 rfl).f5
  go_wp2_with fail; refine callB st (TR.out _) ?_; clear st fc; intro V1 st
  have fc := And.intro (st.box 1 rfl).f5 (st.box 0 rfl).f5
  go_wp2_with fail; go_region
  clear fc
  replace st := st.drew
  generalize V1.drew = V2 at *
  have fc := And.intro (st.box 1 rfl).f5 (st.box 0 rfl).f5
  go_wp2_with fail; refine callB st (flBlanks f.b1.size _ hs) ?_; clear st fc; intro V3 st
  have fc := And.intro (st.box 1 rfl).f5 (st.box 0 rfl).f5
  go_wp2
  clear fc
  replace st := ((st.set 1 1 (.string (blankT f.b1.size)) rfl).set 1 3 (.int .i64 (f.e1 + 1)) rfl).name; obtain ⟨V4, hV, st⟩ := st; rw [hV]; clear hV
  have fc := And.intro (st.box 1 rfl).f5 (st.box 0 rfl).f5
  go_wp2
  clear fc
  replace st := st.put5 0 (.string f.b0) (.string (blankT f.b1.size)) (.int .i64 f.e0) (.int .i64 (f.e1 + 1)) (.int .i64 f.lim) rfl; obtain ⟨V5, hV, st⟩ := st; rw [hV]; clear hV
  have fc := And.intro (st.box 1 rfl).f5 (st.box 0 rfl).f5
  exact bodyPost_ret (v := .tuple #[.agg #[.string f.b0, .string (blankT f.b1.size), .int .i64 f.e0, .int .i64 (f.e1 + 1), .int .i64 f.lim], .int .i64 0]) (by simp [results, Tryz.results64, go_sem, fc]) rfl ⟨rfl, st.lo⟩

theorem flErase (f : Fl) (bank : Int) (W : World) (hf : f.fit) :
    Calls Tryz.prog 64 #[.agg #[.string f.b0, .string f.b1, .int .i64 f.e0, .int .i64 f.e1, .int .i64 f.lim], .int .i64 bank] W fun e W' =>
      e = .returned (.tuple #[.agg #[.string (eraseF f bank).b0, .string (eraseF f bank).b1, .int .i64 (eraseF f bank).e0, .int .i64 (eraseF f bank).e1, .int .i64 (eraseF f bank).lim], .int .i64 (eraseErr f bank)]) ∧ Below W.heap.size W W' := by
  by_cases h0 : bank = 0
  · subst h0
    by_cases hw : f.lim ≤ f.e0
    · have e : eraseErr f 0 = 4 := by unfold eraseErr Fl.erases; rw [if_neg (by decide), if_pos (by rw [if_pos rfl]; exact hw)]
      have e2 : eraseF f 0 = f := by unfold eraseF; rw [if_neg (by rw [e]; decide)]
      rw [e, e2]
      exact flEraseWorn0 f hf.ok.s0 hw W
    · have e : eraseErr f 0 = 0 := by unfold eraseErr Fl.erases; rw [if_neg (by decide), if_neg (by rw [if_pos rfl]; exact hw)]
      have e2 : eraseF f 0 = { f with b0 := blankT f.b0.size, e0 := f.e0 + 1 } := by unfold eraseF; rw [if_pos e, if_pos rfl]
      rw [e, e2]
      exact flEraseOk0 f hf.z0 hf.ok.nl.2 hf.ok.n0.1 (by omega) W
  · by_cases h1 : bank = 1
    · subst h1
      by_cases hw : f.lim ≤ f.e1
      · have e : eraseErr f 1 = 4 := by unfold eraseErr Fl.erases; rw [if_neg (by decide), if_pos (by rw [if_neg (by decide)]; exact hw)]
        have e2 : eraseF f 1 = f := by unfold eraseF; rw [if_neg (by rw [e]; decide)]
        rw [e, e2]
        exact flEraseWorn1 f hf.ok.s1 hw W
      · have e : eraseErr f 1 = 0 := by unfold eraseErr Fl.erases; rw [if_neg (by decide), if_neg (by rw [if_neg (by decide)]; exact hw)]
        have e2 : eraseF f 1 = { f with b1 := blankT f.b1.size, e1 := f.e1 + 1 } := by unfold eraseF; rw [if_pos e, if_neg (by decide)]
        rw [e, e2]
        exact flEraseOk1 f hf.z1 hf.ok.nl.2 hf.ok.n1.1 (by omega) W
    · have e : eraseErr f bank = 1 := if_pos ⟨h0, h1⟩
      have e2 : eraseF f bank = f := by unfold eraseF; rw [if_neg (by rw [e]; decide)]
      rw [e, e2]
      exact flEraseArg f bank h0 h1 W

set_option maxRecDepth 100000 in
set_option maxHeartbeats 1000000 in
theorem flNew (size lim : Int) (W : World) :
    Calls Tryz.prog 18 #[.int .i64 size, .int .i64 lim] W fun e W' =>
      e = .returned (.agg #[.string (newF size lim).b0, .string (newF size lim).b1, .int .i64 (newF size lim).e0, .int .i64 (newF size lim).e1, .int .i64 (newF size lim).lim]) ∧ Below W.heap.size W W' := by
  by_cases h1 : size < 0
  · have H : newF size lim = ⟨⟨#[]⟩, ⟨#[]⟩, 0, 0, 0⟩ := if_pos (.inl h1)
    rw [H]; clear H
    go_enter Tryz.func18, Tryz.ntmps18
    go_wp2
    exact bodyPost_ret (v := .agg #[.string ⟨#[]⟩, .string ⟨#[]⟩, .int .i64 0, .int .i64 0, .int .i64 0]) (by simp [results, Tryz.results18, go_sem]) rfl ⟨rfl, by first | exact (Below.refl _ _).alloc (Nat.le_refl _) _ | exact ((((((Below.refl _ _).alloc (Nat.le_refl _) _).setCell (Nat.le_refl _) _).setCell (Nat.le_refl _) _).setCell (Nat.le_refl _) _).setCell (Nat.le_refl _) _).setCell (Nat.le_refl _) _⟩
  · by_cases h2 : 400 < size
    · have H : newF size lim = ⟨⟨#[]⟩, ⟨#[]⟩, 0, 0, 0⟩ := if_pos (.inr (.inl h2))
      rw [H]; clear H
      go_enter Tryz.func18, Tryz.ntmps18
      go_wp2
      exact bodyPost_ret (v := .agg #[.string ⟨#[]⟩, .string ⟨#[]⟩, .int .i64 0, .int .i64 0, .int .i64 0]) (by simp [results, Tryz.results18, go_sem]) rfl ⟨rfl, by first | exact (Below.refl _ _).alloc (Nat.le_refl _) _ | exact ((((((Below.refl _ _).alloc (Nat.le_refl _) _).setCell (Nat.le_refl _) _).setCell (Nat.le_refl _) _).setCell (Nat.le_refl _) _).setCell (Nat.le_refl _) _).setCell (Nat.le_refl _) _⟩
    · by_cases h3 : lim < 0
      · have H : newF size lim = ⟨⟨#[]⟩, ⟨#[]⟩, 0, 0, 0⟩ := if_pos (.inr (.inr (.inl h3)))
        rw [H]; clear H
        go_enter Tryz.func18, Tryz.ntmps18
        go_wp2
        exact bodyPost_ret (v := .agg #[.string ⟨#[]⟩, .string ⟨#[]⟩, .int .i64 0, .int .i64 0, .int .i64 0]) (by simp [results, Tryz.results18, go_sem]) rfl ⟨rfl, by first | exact (Below.refl _ _).alloc (Nat.le_refl _) _ | exact ((((((Below.refl _ _).alloc (Nat.le_refl _) _).setCell (Nat.le_refl _) _).setCell (Nat.le_refl _) _).setCell (Nat.le_refl _) _).setCell (Nat.le_refl _) _).setCell (Nat.le_refl _) _⟩
      · by_cases h4 : 1000 < lim
        · have H : newF size lim = ⟨⟨#[]⟩, ⟨#[]⟩, 0, 0, 0⟩ := if_pos (.inr (.inr (.inr h4)))
          rw [H]; clear H
          go_enter Tryz.func18, Tryz.ntmps18
          go_wp2
          exact bodyPost_ret (v := .agg #[.string ⟨#[]⟩, .string ⟨#[]⟩, .int .i64 0, .int .i64 0, .int .i64 0]) (by simp [results, Tryz.results18, go_sem]) rfl ⟨rfl, by first | exact (Below.refl _ _).alloc (Nat.le_refl _) _ | exact ((((((Below.refl _ _).alloc (Nat.le_refl _) _).setCell (Nat.le_refl _) _).setCell (Nat.le_refl _) _).setCell (Nat.le_refl _) _).setCell (Nat.le_refl _) _).setCell (Nat.le_refl _) _⟩
        · obtain ⟨n, rfl⟩ := Int.eq_ofNat_of_zero_le (by omega : 0 ≤ size)
          have H : newF (n : Int) lim = ⟨blankT n, blankT n, 0, 0, lim⟩ := if_neg (by omega)
          rw [H]; clear H
          go_enter Tryz.func18, Tryz.ntmps18
          have hB : Below W.heap.size W (W.alloc (.cells #[.string ⟨#[]⟩, .string ⟨#[]⟩, .int .i64 0, .int .i64 0, .int .i64 0] 25)) := (Below.refl _ _).alloc (Nat.le_refl _) _
          have xr := Box.new 25 W [.string ⟨#[]⟩, .string ⟨#[]⟩, .int .i64 0, .int .i64 0, .int .i64 0]
          go_wp2_with fail
          refine (flBlanks n _ (by omega)).mono ?_
          rintro e V2 ⟨rfl, k⟩
          replace hB := below_seq hB k
          replace xr := xr.seq k
          clear k
          have r0 := xr.cell 0 rfl
          have z0 := xr.frozen 0
          have r1 := xr.cell 1 rfl
          have z1 := xr.frozen 1
          have r2 := xr.cell 2 rfl
          have z2 := xr.frozen 2
          have r3 := xr.cell 3 rfl
          have z3 := xr.frozen 3
          have r4 := xr.cell 4 rfl
          have z4 := xr.frozen 4
          go_wp2
          replace xr : Box 25 (((((V2.setCell ⟨W.heap.size, 0, none⟩ (.string (blankT n))).setCell ⟨W.heap.size, 1, none⟩ (.string (blankT n))).setCell ⟨W.heap.size, 2, none⟩ (.int .i64 0)).setCell ⟨W.heap.size, 3, none⟩ (.int .i64 0)).setCell ⟨W.heap.size, 4, none⟩ (.int .i64 lim)) W.heap.size [.string (blankT n), .string (blankT n), .int .i64 0, .int .i64 0, .int .i64 lim] := (((((xr.set 0 (.string (blankT n))).set 1 (.string (blankT n))).set 2 (.int .i64 0)).set 3 (.int .i64 0)).set 4 (.int .i64 lim))
          replace hB : Below W.heap.size W (((((V2.setCell ⟨W.heap.size, 0, none⟩ (.string (blankT n))).setCell ⟨W.heap.size, 1, none⟩ (.string (blankT n))).setCell ⟨W.heap.size, 2, none⟩ (.int .i64 0)).setCell ⟨W.heap.size, 3, none⟩ (.int .i64 0)).setCell ⟨W.heap.size, 4, none⟩ (.int .i64 lim)) := (((((hB.setCell (Nat.le_refl _) _).setCell (Nat.le_refl _) _).setCell (Nat.le_refl _) _).setCell (Nat.le_refl _) _).setCell (Nat.le_refl _) _)
          clear r0 z0 r1 z1 r2 z2 r3 z3 r4 z4
          generalize (((((V2.setCell ⟨W.heap.size, 0, none⟩ (.string (blankT n))).setCell ⟨W.heap.size, 1, none⟩ (.string (blankT n))).setCell ⟨W.heap.size, 2, none⟩ (.int .i64 0)).setCell ⟨W.heap.size, 3, none⟩ (.int .i64 0)).setCell ⟨W.heap.size, 4, none⟩ (.int .i64 lim)) = V9 at *
          have r0 := xr.cell 0 rfl
          have r1 := xr.cell 1 rfl
          have r2 := xr.cell 2 rfl
          have r3 := xr.cell 3 rfl
          have r4 := xr.cell 4 rfl
          exact bodyPost_ret (v := .agg #[.string (blankT n), .string (blankT n), .int .i64 0, .int .i64 0, .int .i64 lim]) (by simp [results, Tryz.results18, go_sem, r0, r1, r2, r3, r4]) rfl ⟨rfl, hB⟩

set_option maxRecDepth 100000 in
set_option maxHeartbeats 1000000 in
theorem flProgErr (f : Fl) (bank q E : Int) (d s : ByteArray) (hE : E ≠ 0) (TR : ∀ W : World, Calls Tryz.prog 93 #[.agg #[.string f.b0, .string f.b1, .int .i64 f.e0, .int .i64 f.e1, .int .i64 f.lim], .int .i64 bank, .int .i64 q, .int .i64 (d.size : Int)] W fun e W' => e = .returned (.tuple #[.string s, .int .i64 E]) ∧ Below W.heap.size W W') (W : World) :
    Gives Tryz.prog 63 #[.agg #[.string f.b0, .string f.b1, .int .i64 f.e0, .int .i64 f.e1, .int .i64 f.lim], .int .i64 bank, .int .i64 q, .string d] W (.tuple #[.agg #[.string f.b0, .string f.b1, .int .i64 f.e0, .int .i64 f.e1, .int .i64 f.lim], .int .i64 E]) := by
  have n0 : (E != 0) = true := bne_iff_ne.2 hE
  replace TR := Lib.hid TR
  clear hE
  have st := Bs.in2 W 25 [.string f.b0, .string f.b1, .int .i64 f.e0, .int .i64 f.e1, .int .i64 f.lim] 25 [.string ⟨#[]⟩, .string ⟨#[]⟩, .int .i64 0, .int .i64 0, .int .i64 0]
  go_enter Tryz.func63, Tryz.ntmps63
  have fc := And.intro (st.box 1 rfl).f5 (st.box 0 rfl).f5
  go_wp2_with fail; refine callB st (TR.out _) ?_; clear st fc; intro V1 st
  have fc := And.intro (st.box 1 rfl).f5 (st.box 0 rfl).f5
  go_wp2
  clear fc
  replace st := st.put5 0 (.string f.b0) (.string f.b1) (.int .i64 f.e0) (.int .i64 f.e1) (.int .i64 f.lim) rfl; obtain ⟨V2, hV, st⟩ := st; rw [hV]; clear hV
  have fc := And.intro (st.box 1 rfl).f5 (st.box 0 rfl).f5
  exact bodyPost_ret (v := .tuple #[.agg #[.string f.b0, .string f.b1, .int .i64 f.e0, .int .i64 f.e1, .int .i64 f.lim], .int .i64 E]) (by simp [results, Tryz.results63, go_sem, fc]) rfl ⟨rfl, st.lo⟩

set_option maxRecDepth 100000 in
set_option maxHeartbeats 1000000 in
theorem flProgAlign0 (f : Fl) (bank : Int) (q : Nat) (d s : ByteArray) (h : q % 2 ≠ 0) (TR : ∀ W : World, Calls Tryz.prog 93 #[.agg #[.string f.b0, .string f.b1, .int .i64 f.e0, .int .i64 f.e1, .int .i64 f.lim], .int .i64 bank, .int .i64 (q : Int), .int .i64 (d.size : Int)] W fun e W' => e = .returned (.tuple #[.string s, .int .i64 0]) ∧ Below W.heap.size W W') (W : World) :
    Gives Tryz.prog 63 #[.agg #[.string f.b0, .string f.b1, .int .i64 f.e0, .int .i64 f.e1, .int .i64 f.lim], .int .i64 bank, .int .i64 (q : Int), .string d] W (.tuple #[.agg #[.string f.b0, .string f.b1, .int .i64 f.e0, .int .i64 f.e1, .int .i64 f.lim], .int .i64 3]) := by
  replace TR := Lib.hid TR
  have n1 : (((q : Int) % 2) != 0) = true := bne_iff_ne.2 (by omega)
  have n2 : (((q : Int).tmod 2) != 0) = true := bne_iff_ne.2 (by rw [Int.tmod_eq_emod_of_nonneg (by omega)]; omega)
  have st := Bs.in2 W 25 [.string f.b0, .string f.b1, .int .i64 f.e0, .int .i64 f.e1, .int .i64 f.lim] 25 [.string ⟨#[]⟩, .string ⟨#[]⟩, .int .i64 0, .int .i64 0, .int .i64 0]
  go_enter Tryz.func63, Tryz.ntmps63
  have fc := And.intro (st.box 1 rfl).f5 (st.box 0 rfl).f5
  go_wp2_with fail; refine callB st (TR.out _) ?_; clear st fc; intro V1 st
  have fc := And.intro (st.box 1 rfl).f5 (st.box 0 rfl).f5
  go_wp2
  clear fc
  replace st := st.put5 0 (.string f.b0) (.string f.b1) (.int .i64 f.e0) (.int .i64 f.e1) (.int .i64 f.lim) rfl; obtain ⟨V2, hV, st⟩ := st; rw [hV]; clear hV
  have fc := And.intro (st.box 1 rfl).f5 (st.box 0 rfl).f5
  exact bodyPost_ret (v := .tuple #[.agg #[.string f.b0, .string f.b1, .int .i64 f.e0, .int .i64 f.e1, .int .i64 f.lim], .int .i64 3]) (by simp [results, Tryz.results63, go_sem, fc]) rfl ⟨rfl, st.lo⟩

set_option maxRecDepth 100000 in
set_option maxHeartbeats 1000000 in
theorem flProgAlign1 (f : Fl) (bank : Int) (q : Nat) (d s : ByteArray) (h0 : q % 2 = 0) (h : d.size % 2 ≠ 0) (TR : ∀ W : World, Calls Tryz.prog 93 #[.agg #[.string f.b0, .string f.b1, .int .i64 f.e0, .int .i64 f.e1, .int .i64 f.lim], .int .i64 bank, .int .i64 (q : Int), .int .i64 (d.size : Int)] W fun e W' => e = .returned (.tuple #[.string s, .int .i64 0]) ∧ Below W.heap.size W W') (W : World) :
    Gives Tryz.prog 63 #[.agg #[.string f.b0, .string f.b1, .int .i64 f.e0, .int .i64 f.e1, .int .i64 f.lim], .int .i64 bank, .int .i64 (q : Int), .string d] W (.tuple #[.agg #[.string f.b0, .string f.b1, .int .i64 f.e0, .int .i64 f.e1, .int .i64 f.lim], .int .i64 3]) := by
  replace TR := Lib.hid TR
  have n1 : (((q : Int) % 2) != 0) = false := by rw [bne_eq_false_iff_eq]; omega
  have n2 : (((q : Int).tmod 2) != 0) = false := by rw [bne_eq_false_iff_eq, Int.tmod_eq_emod_of_nonneg (by omega)]; omega
  have n3 : (((d.size : Int) % 2) != 0) = true := bne_iff_ne.2 (by omega)
  have n4 : (((d.size : Int).tmod 2) != 0) = true := bne_iff_ne.2 (by rw [Int.tmod_eq_emod_of_nonneg (by omega)]; omega)
  have st := Bs.in2 W 25 [.string f.b0, .string f.b1, .int .i64 f.e0, .int .i64 f.e1, .int .i64 f.lim] 25 [.string ⟨#[]⟩, .string ⟨#[]⟩, .int .i64 0, .int .i64 0, .int .i64 0]
  go_enter Tryz.func63, Tryz.ntmps63
  have fc := And.intro (st.box 1 rfl).f5 (st.box 0 rfl).f5
  go_wp2_with fail; refine callB st (TR.out _) ?_; clear st fc; intro V1 st
  have fc := And.intro (st.box 1 rfl).f5 (st.box 0 rfl).f5
  go_wp2
  clear fc
  replace st := st.put5 0 (.string f.b0) (.string f.b1) (.int .i64 f.e0) (.int .i64 f.e1) (.int .i64 f.lim) rfl; obtain ⟨V2, hV, st⟩ := st; rw [hV]; clear hV
  have fc := And.intro (st.box 1 rfl).f5 (st.box 0 rfl).f5
  exact bodyPost_ret (v := .tuple #[.agg #[.string f.b0, .string f.b1, .int .i64 f.e0, .int .i64 f.e1, .int .i64 f.lim], .int .i64 3]) (by simp [results, Tryz.results63, go_sem, fc]) rfl ⟨rfl, st.lo⟩

set_option maxRecDepth 100000 in
set_option maxHeartbeats 4000000 in
theorem flProgOk0 (f : Fl) (p : Nat) (d : ByteArray) (hs : f.b0.size ≤ 140737488351232) (h : p + d.size ≤ f.b0.size) (h2 : p % 2 = 0) (h3 : d.size % 2 = 0) (W : World) :
    Gives Tryz.prog 63 #[.agg #[.string f.b0, .string f.b1, .int .i64 f.e0, .int .i64 f.e1, .int .i64 f.lim], .int .i64 0, .int .i64 (p : Int), .string d] W (.tuple #[.agg #[.string (splice f.b0 p d), .string f.b1, .int .i64 f.e0, .int .i64 f.e1, .int .i64 f.lim], .int .i64 0]) := by
  have TR := Lib.hid (fun (W : World) => flReadOk0 f p d.size (by unfold maxLen; omega) h W)
  have TC := Lib.hid (fun (W : World) => clrAnd (f.b0.extract p (p + d.size)) d W (by simp; omega) (by unfold maxLen; omega))
  have HS := (show splice f.b0 p d = f.b0.extract 0 p ++ andB (f.b0.extract p (p + d.size)) d ++ f.b0.extract (p + d.size) f.b0.size from rfl)
  have zA : (andB (f.b0.extract p (p + d.size)) d).size ≤ f.b0.size := by rw [andB_size]; simp; omega
  rw [HS]
  clear HS
  generalize andB (f.b0.extract p (p + d.size)) d = A at *
  have g1 : ¬ 9223372036854775807 < p + A.size := by omega
  have g2 : ¬ 9223372036854775807 < p + A.size + (f.b0.size - (p + d.size)) := by omega
  have g3 : ¬ 9223372036854775807 < min p f.b0.size + A.size := by omega
  have g4 : ¬ 9223372036854775807 < min p f.b0.size + A.size + (f.b0.size - (p + d.size)) := by omega
  have n2 : (((p : Int).tmod 2) != 0) = false := by rw [bne_eq_false_iff_eq, Int.tmod_eq_emod_of_nonneg (by omega)]; omega
  have n4 : (((d.size : Int).tmod 2) != 0) = false := by rw [bne_eq_false_iff_eq, Int.tmod_eq_emod_of_nonneg (by omega)]; omega
  have i1 : (p : Int) ≤ (f.b0.size : Int) := by omega
  have i3 : (p : Int) + (d.size : Int) ≤ (f.b0.size : Int) := by omega
  have i4 : (0 : Int) ≤ (p : Int) + (d.size : Int) := by omega
  have i5 : ((p : Int) + (d.size : Int)).toNat = p + d.size := by omega
  have i7 : p ≤ f.b0.size := by omega
  have i8 : p + d.size ≤ f.b0.size := h
  have i9 : (0 : Int) ≤ (p : Int) := by omega
  have w1 : IntKind.i64.wrap ((p : Int) + (d.size : Int)) = (p : Int) + (d.size : Int) := IntWalk.i64_in _ (by omega)
  have st := Bs.in2 W 25 [.string f.b0, .string f.b1, .int .i64 f.e0, .int .i64 f.e1, .int .i64 f.lim] 25 [.string ⟨#[]⟩, .string ⟨#[]⟩, .int .i64 0, .int .i64 0, .int .i64 0]
  go_enter Tryz.func63, Tryz.ntmps63
  have fc := And.intro (st.box 1 rfl).f5 (st.box 0 rfl).f5
  go_wp2_with fail; refine callB st (TR.out _) ?_; clear st fc; intro V1 st
  have fc := And.intro (st.box 1 rfl).f5 (st.box 0 rfl).f5
  go_wp2_with fail
  clear fc
  replace st := st.drew
  refine rh (fun w => True) trivial fun hHeld => ?_
  generalize V1.drew = V2 at *
  refine tq 0 ?_; refine tq 1 ?_; refine tq 2 ?_; refine tq 3 ?_; refine tq 4 ?_; refine tq 5 ?_; refine tq 8 ?_; refine tq 9 ?_; refine tq 10 ?_; refine tq 11 ?_; refine tq 12 ?_; refine tq 13 ?_; refine tq 15 ?_
  try simp only [Act.put, l1, l2, l3, l4, l5, l6]
  refine rd 6 fun K hK => ?_
  have fc := And.intro (st.box 1 rfl).f5 (st.box 0 rfl).f5
  go_simp
  refine callB st (TC.out _) ?_; clear st fc; intro V3 st
  have fc := And.intro (st.box 1 rfl).f5 (st.box 0 rfl).f5
  try go_wp2_with fail
  clear hHeld fc; refine hK.out _ _ trivial fun hHeld => ?_; clear hK K
  try simp only [Act.put, l1, l2, l3, l4, l5, l6]
  refine tq 7 ?_; refine tq 14 ?_; refine tq 16 ?_
  try simp only [Act.put, l1, l2, l3, l4, l5, l6]
  refine rd 17 fun K hK => ?_
  have fc := And.intro (st.box 1 rfl).f5 (st.box 0 rfl).f5
  go_simp
  try go_wp2_with fail
  clear fc
  replace st := (st.set 1 0 (.string (f.b0.extract 0 p ++ A ++ f.b0.extract (p + d.size) f.b0.size)) rfl).name; obtain ⟨V4, hV, st⟩ := st; rw [hV]; clear hV
  clear hHeld; refine hK.out _ _ trivial fun hHeld => ?_; clear hK K
  try simp only [Act.put, l1, l2, l3, l4, l5, l6]
  refine wpAnyH_done (by kernel_rfl) ?_ _; clear hHeld
  have fc := And.intro (st.box 1 rfl).f5 (st.box 0 rfl).f5
  go_wp2
  clear fc
  replace st := st.put5 0 (.string (f.b0.extract 0 p ++ A ++ f.b0.extract (p + d.size) f.b0.size)) (.string f.b1) (.int .i64 f.e0) (.int .i64 f.e1) (.int .i64 f.lim) rfl; obtain ⟨V5, hV, st⟩ := st; rw [hV]; clear hV
  have fc := And.intro (st.box 1 rfl).f5 (st.box 0 rfl).f5
  exact bodyPost_ret (v := .tuple #[.agg #[.string (f.b0.extract 0 p ++ A ++ f.b0.extract (p + d.size) f.b0.size), .string f.b1, .int .i64 f.e0, .int .i64 f.e1, .int .i64 f.lim], .int .i64 0]) (by simp [results, Tryz.results63, go_sem, fc]) rfl ⟨rfl, st.lo⟩

set_option maxRecDepth 100000 in
set_option maxHeartbeats 4000000 in
theorem flProgOk1 (f : Fl) (p : Nat) (d : ByteArray) (hs : f.b1.size ≤ 140737488351232) (h : p + d.size ≤ f.b1.size) (h2 : p % 2 = 0) (h3 : d.size % 2 = 0) (W : World) :
    Gives Tryz.prog 63 #[.agg #[.string f.b0, .string f.b1, .int .i64 f.e0, .int .i64 f.e1, .int .i64 f.lim], .int .i64 1, .int .i64 (p : Int), .string d] W (.tuple #[.agg #[.string f.b0, .string (splice f.b1 p d), .int .i64 f.e0, .int .i64 f.e1, .int .i64 f.lim], .int .i64 0]) := by
  have TR := Lib.hid (fun (W : World) => flReadOk1 f p d.size (by unfold maxLen; omega) h W)
  have TC := Lib.hid (fun (W : World) => clrAnd (f.b1.extract p (p + d.size)) d W (by simp; omega) (by unfold maxLen; omega))
  have HS := (show splice f.b1 p d = f.b1.extract 0 p ++ andB (f.b1.extract p (p + d.size)) d ++ f.b1.extract (p + d.size) f.b1.size from rfl)
  have zA : (andB (f.b1.extract p (p + d.size)) d).size ≤ f.b1.size := by rw [andB_size]; simp; omega
  rw [HS]
  clear HS
  generalize andB (f.b1.extract p (p + d.size)) d = A at *
  have g1 : ¬ 9223372036854775807 < p + A.size := by omega
  have g2 : ¬ 9223372036854775807 < p + A.size + (f.b1.size - (p + d.size)) := by omega
  have g3 : ¬ 9223372036854775807 < min p f.b1.size + A.size := by omega
  have g4 : ¬ 9223372036854775807 < min p f.b1.size + A.size + (f.b1.size - (p + d.size)) := by omega
  have n2 : (((p : Int).tmod 2) != 0) = false := by rw [bne_eq_false_iff_eq, Int.tmod_eq_emod_of_nonneg (by omega)]; omega
  have n4 : (((d.size : Int).tmod 2) != 0) = false := by rw [bne_eq_false_iff_eq, Int.tmod_eq_emod_of_nonneg (by omega)]; omega
  have i1 : (p : Int) ≤ (f.b1.size : Int) := by omega
  have i3 : (p : Int) + (d.size : Int) ≤ (f.b1.size : Int) := by omega
  have i4 : (0 : Int) ≤ (p : Int) + (d.size : Int) := by omega
  have i5 : ((p : Int) + (d.size : Int)).toNat = p + d.size := by omega
  have i7 : p ≤ f.b1.size := by omega
  have i8 : p + d.size ≤ f.b1.size := h
  have i9 : (0 : Int) ≤ (p : Int) := by omega
  have w1 : IntKind.i64.wrap ((p : Int) + (d.size : Int)) = (p : Int) + (d.size : Int) := IntWalk.i64_in _ (by omega)
  have st := Bs.in2 W 25 [.string f.b0, .string f.b1, .int .i64 f.e0, .int .i64 f.e1, .int .i64 f.lim] 25 [.string ⟨#[]⟩, .string ⟨#[]⟩, .int .i64 0, .int .i64 0, .int .i64 0]
  go_enter Tryz.func63, Tryz.ntmps63
  have fc := And.intro (st.box 1 rfl).f5 (st.box 0 rfl).f5
  go_wp2_with fail; refine callB st (TR.out _) ?_; clear st fc; intro V1 st
  have fc := And.intro (st.box 1 rfl).f5 (st.box 0 rfl).f5
  go_wp2_with fail
  clear fc
  replace st := st.drew
  refine rh (fun w => True) trivial fun hHeld => ?_
  generalize V1.drew = V2 at *
  refine tq 0 ?_; refine tq 1 ?_; refine tq 2 ?_; refine tq 3 ?_; refine tq 4 ?_; refine tq 5 ?_; refine tq 8 ?_; refine tq 9 ?_; refine tq 10 ?_; refine tq 11 ?_; refine tq 12 ?_; refine tq 13 ?_; refine tq 15 ?_
  try simp only [Act.put, l1, l2, l3, l4, l5, l6]
  refine rd 6 fun K hK => ?_
  have fc := And.intro (st.box 1 rfl).f5 (st.box 0 rfl).f5
  go_simp
  refine callB st (TC.out _) ?_; clear st fc; intro V3 st
  have fc := And.intro (st.box 1 rfl).f5 (st.box 0 rfl).f5
  try go_wp2_with fail
  clear hHeld fc; refine hK.out _ _ trivial fun hHeld => ?_; clear hK K
  try simp only [Act.put, l1, l2, l3, l4, l5, l6]
  refine tq 7 ?_; refine tq 14 ?_; refine tq 16 ?_
  try simp only [Act.put, l1, l2, l3, l4, l5, l6]
  refine rd 17 fun K hK => ?_
  have fc := And.intro (st.box 1 rfl).f5 (st.box 0 rfl).f5
  go_simp
  try go_wp2_with fail
  clear fc
  replace st := (st.set 1 1 (.string (f.b1.extract 0 p ++ A ++ f.b1.extract (p + d.size) f.b1.size)) rfl).name; obtain ⟨V4, hV, st⟩ := st; rw [hV]; clear hV
  clear hHeld; refine hK.out _ _ trivial fun hHeld => ?_; clear hK K
  try simp only [Act.put, l1, l2, l3, l4, l5, l6]
  refine wpAnyH_done (by kernel_rfl) ?_ _; clear hHeld
  have fc := And.intro (st.box 1 rfl).f5 (st.box 0 rfl).f5
  go_wp2
  clear fc
  replace st := st.put5 0 (.string f.b0) (.string (f.b1.extract 0 p ++ A ++ f.b1.extract (p + d.size) f.b1.size)) (.int .i64 f.e0) (.int .i64 f.e1) (.int .i64 f.lim) rfl; obtain ⟨V5, hV, st⟩ := st; rw [hV]; clear hV
  have fc := And.intro (st.box 1 rfl).f5 (st.box 0 rfl).f5
  exact bodyPost_ret (v := .tuple #[.agg #[.string f.b0, .string (f.b1.extract 0 p ++ A ++ f.b1.extract (p + d.size) f.b1.size), .int .i64 f.e0, .int .i64 f.e1, .int .i64 f.lim], .int .i64 0]) (by simp [results, Tryz.results63, go_sem, fc]) rfl ⟨rfl, st.lo⟩

theorem flProgram (f : Fl) (bank q : Int) (d : ByteArray) (W : World) (hf : f.fit) (hd : d.size ≤ maxLen) (hq : q ≤ 9223372036854775807 := by omega) :
    Calls Tryz.prog 63 #[.agg #[.string f.b0, .string f.b1, .int .i64 f.e0, .int .i64 f.e1, .int .i64 f.lim], .int .i64 bank, .int .i64 q, .string d] W fun e W' =>
      e = .returned (.tuple #[.agg #[.string (progF f bank q d).b0, .string (progF f bank q d).b1, .int .i64 (progF f bank q d).e0, .int .i64 (progF f bank q d).e1, .int .i64 (progF f bank q d).lim], .int .i64 (progErr f bank q d)]) ∧ Below W.heap.size W W' := by
  by_cases h : readErr f bank q d.size = 0
  · obtain ⟨hb, h1, _, h3⟩ := readErr_zero.1 h
    obtain ⟨p, rfl⟩ := Int.eq_ofNat_of_zero_le h1
    have TR := fun W => flRead f bank (p : Int) d.size W hf hq
    rw [h] at TR
    by_cases ha : (p : Int) % 2 ≠ 0 ∨ d.size % 2 ≠ 0
    · have e1 : progErr f bank (p : Int) d = 3 := by unfold progErr; rw [if_neg (by rw [h]; decide), if_pos ha]
      have e2 : progF f bank (p : Int) d = f := if_neg (by rw [e1]; decide)
      rw [e1, e2]
      by_cases hp : p % 2 = 0
      · exact flProgAlign1 f bank p d _ hp (by omega) TR W
      · exact flProgAlign0 f bank p d _ hp TR W
    · have e1 : progErr f bank (p : Int) d = 0 := by unfold progErr; rw [if_neg (by rw [h]; decide), if_neg ha]
      have e2 : progF f bank (p : Int) d = f.setBank bank (splice (f.bank bank) p d) := by unfold progF; rw [if_pos e1, Int.toNat_natCast]
      rw [e1, e2]
      rcases hb with rfl | rfl
      · exact flProgOk0 f p d hf.z0 (by have e : f.bank 0 = f.b0 := rfl; rw [e] at h3; omega) (by omega) (by omega) W
      · exact flProgOk1 f p d hf.z1 (by have e : f.bank 1 = f.b1 := rfl; rw [e] at h3; omega) (by omega) (by omega) W
  · have e1 := progErr_read h
    have e2 : progF f bank q d = f := if_neg (by rw [e1]; exact h)
    rw [e1, e2]
    exact flProgErr f bank q _ d _ h (fun W => flRead f bank q d.size W hf hq) W

theorem progF_fit {f : Fl} (hf : f.fit) (bank q : Int) (d : ByteArray) : (progF f bank q d).fit := by
  have h := progF_bank_size f bank q d
  refine ⟨progF_ok hf.ok bank q d, ?_, ?_⟩
  · unfold progF Fl.setBank at *
    split
    · split
      · rename_i h1 h2; rw [if_pos h1, if_pos h2] at h; subst h2; exact Nat.le_trans (Nat.le_of_eq h) hf.z0
      · exact hf.z0
    · exact hf.z0
  · unfold progF Fl.setBank at *
    split
    · split
      · exact hf.z1
      · rename_i h1 h2; rw [if_pos h1, if_neg h2] at h; unfold Fl.bank at h; rw [if_neg h2, if_neg h2] at h; show (splice (f.bank bank) q.toNat d).size ≤ _; unfold Fl.bank; rw [if_neg h2]; exact Nat.le_trans (Nat.le_of_eq h) hf.z1
    · exact hf.z1

end Go.Proofs.YthmpjoiifglbjaaGreat

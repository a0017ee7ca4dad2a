/- The walks of the reference's own functions of layer 1, and of the small functions that the program calls: contracts only. -/
import Derived.Test.YtoemjfjmpmngeabRows
import Derived.WalkKit
import Derived.ProofKit
import Derived.OpenShut
import Derived.StillTailTactics
import Derived.BigQuiet
import Derived.Deep.QuietTactic
import Derived.Lib.Hide
import Derived.Maps.AppendAt
import Derived.Deep.RegionLaw
import Derived.Test.YtoemjfjmpmngeabBase
namespace Go.Proofs.Ytoemjfjmpmngeab
open Go.RowKit
set_option linter.unusedVariables false
attribute [local go_sem] b8_and b8_or b8_andNot gdI_255 gdI_0 b8_bit b8_bitand

theorem Try.info_u8 : (Try.prog.info? 5).map (fun i => (i.zero, i.size, i.bytes)) = some (some (.int .u8 0), 1, 1) := by kernel_rfl

/-- append to a row of the call's own, as one step of a region that draws its order. -/
theorem step_append_own {P : Program} {ops : Array Oper} {o : Oper} {a : Act} {w : World} {K : Act → World → Prop} {Q : Exit → Act → World → Prop} {E : Prop}
    (hg : o.guard = none) (s x : Operand) (t : TypeId) (ho : o.op = Op.call { callee := Callee.builtin Builtin.append, args := #[s, x], argTypes := #[t, t] })
    (base : Nat) (e : TypeId) (i : TypeInfo) (z : Value) (size bytes : Nat) (ht : P.underlying t = some (.slice e)) (hi : P.info? e = some i) (hz : i.zero = some z)
    (hsize : i.size = size) (hby : i.bytes = bytes) (hzs : z.cells.size = size) (hsz : 0 < size)
    (v : Value) (n : Nat) (xs : List Value) (hs : a.eval s = v) (hown : w.ownsRow base e size v n xs)
    (ad : Addr) (m c : Nat) (news : List Value) (hx : a.eval x = .slice (some ad) m c) (hl : news.length = m * size) (hnews : ∀ j u, news[j]? = some u → w.cell? (ad.add j) = some u) (h1 : ∀ u ∈ news, u.oneCell' = true)
    (h63 : n + m ≤ maxLen) (hbytes : (n + m) * bytes ≤ 140737488355328) (hbase : base ≤ w.heap.size)
    (h : ∀ v' w', w'.ownsRow base e size v' (n + m) (xs ++ news) → w.grownBy w' v.ownBlock → (v' = .slice none 0 0 ↔ v = .slice none 0 0 ∧ m = 0) → K (a.put o.dst v') w') :
    if Region.wanted o (yielded ops a.tmps) = true then Oper.wp P o a w K Q else E := by
  have hw : Region.wanted o (yielded ops a.tmps) = true := by simp [Region.wanted, hg]
  rw [if_pos hw]
  exact wp_append_own w s x t ho base e i z size bytes ht hi hz hsize hby hzs hsz v n xs hs hown ad m c news hx hl hnews h1 h63 hbytes hbase h

theorem at_any (s : ByteArray) (i : Nat) (d : Int) (w : World) (hs : s.size ≤ maxLen) (hi : i ≤ maxLen) :
    Calls Try.prog 43 #[.string s, .int .i64 i, .int .u8 d] w fun e w' => e = .returned (.int .u8 (gdI s i d)) ∧ w' = w := by
  unfold maxLen at hs hi
  by_cases h : i < s.size
  · have hg : gdI s i d = (s[i].toNat : Int) := dif_pos h
    rw [hg]; clear hg
    go_enter Try.func43, Try.ntmps43
    go_wp2
    go_ret
    exact ⟨rfl, rfl⟩
  · have hg : gdI s i d = d := dif_neg h
    rw [hg]; clear hg
    go_enter Try.func43, Try.ntmps43
    go_wp2
    go_ret
    exact ⟨rfl, rfl⟩

theorem byteAt_any (s : ByteArray) (i : Nat) (d : Int) (w : World) (hs : s.size ≤ maxLen) (hi : i ≤ maxLen) :
    Calls Try.prog 54 #[.string s, .int .i64 i, .int .u8 d] w fun e w' => e = .returned (.int .u8 (gdI s i d)) ∧ w' = w := by
  unfold maxLen at hs hi
  by_cases h : i < s.size
  · have hg : gdI s i d = (s[i].toNat : Int) := dif_pos h
    rw [hg]; clear hg
    go_enter Try.func54, Try.ntmps54
    go_wp2
    go_ret
    exact ⟨rfl, rfl⟩
  · have hg : gdI s i d = d := dif_neg h
    rw [hg]; clear hg
    go_enter Try.func54, Try.ntmps54
    go_wp2
    go_ret
    exact ⟨rfl, rfl⟩

set_option maxRecDepth 100000 in
set_option maxHeartbeats 1000000 in
theorem refAnd (o w : ByteArray) (W : World) (ho : o.size ≤ 140737488351232) (hw : w.size ≤ maxLen) :
    Calls Try.prog 19 #[.string o, .string w] W fun e W' => e = .returned (.string (andB o w)) ∧ Below W.heap.size W W' := by
  unfold maxLen at hw
  obtain ⟨i0, hi, hz0, hz1, hz2⟩ := info_parts Try.info_u8
  go_enter Try.func19, Try.ntmps19
  go_wp2
  go_loopw [5, 6] (fun v i wr => ∃ k : Nat, k ≤ o.size ∧ i = .int .i64 k ∧ wr.ownsRow W.heap.size 5 1 v k ((upto (andF (bl o) (bl w)) k).map b8v) ∧ Below W.heap.size W wr)
    (fun _ i _ => o.size - (intOf i).toNat)
  case atStart => exact ⟨0, Nat.zero_le _, rfl, World.ownsRow_made _ _ 0 (by simp) (by simp) rfl, (Below.refl _ _).alloc (Nat.le_refl _) _⟩
  case round =>
    obtain ⟨k, hk, rfl, hown, hB⟩ := hrel
    have hsz := hB.size
    by_cases hlt : k < o.size
    · go_wp2_with fail
      have e : b8v (andF (bl o) (bl w) k) = Value.int .u8 ((band o[k] (gd (bl w) k 255)).toNat : Int) := by
        rw [andF, gd_in o k 0 hlt]; rfl
      have He := Lib.hid e
      clear e
      go_region_law (first
        | (refine step_append_own rfl _ _ 57 rfl W.heap.size 5 i0 (.int .u8 0) 1 1 Try.underlying57 hi hz0 hz1 hz2 rfl (by decide) _ _ _ rfl (hown.drew.alloc _) ⟨wr.heap.size, 0, none⟩ 1 1 [b8v (andF (bl o) (bl w) k)] rfl rfl (by rw [He.out]; exact cell_one_new _ _ _) (by simp [Value.oneCell', b8v]) (by unfold maxLen; omega) (by omega) (by simp; omega) ?_; intro v' w1 hown' hgrow _)
        | (go_simp; go_at_call 43; refine (at_any _ _ _ _ (by unfold maxLen; omega) (by unfold maxLen; omega)).mono ?_; rintro e w' ⟨rfl, rfl⟩))
      all_goals
        have hB3 : Below W.heap.size W w1 := (hB.drew.alloc hsz _).grown hgrow (by simp; omega) (fun j e => ((hown.lt j e).1))
        have H3 : Hid (w1.ownsRow W.heap.size 5 1 v' (k + 1) ((upto (andF (bl o) (bl w)) (k + 1)).map b8v)) := by
          rw [upto_succ, List.map_append]; exact hown'
        clear hown' hown hgrow hB
        go_wp2
        go_roundw
        case rel => exact ⟨k + 1, by omega, by go_num, H3.out, hB3⟩
        case measure => simp [intOf]; omega
    · obtain rfl : k = o.size := by omega
      have hcv := owns_string (P := Try.prog) (src := 57) (dst := 9) Try.underlying57 Try.underlying5 Try.underlying9 hown
      have e : bs (upto (andF (bl o) (bl w)) o.size) = andB o w := by rw [andB, andL, bl_length]
      rw [e] at hcv
      clear e
      go_wp2
      go_ret
      exact ⟨rfl, hB⟩

set_option maxRecDepth 100000 in
set_option maxHeartbeats 1000000 in
theorem refBits (o g : ByteArray) (W : World) (ho : o.size ≤ 140737488351232) (hg : g.size ≤ maxLen) :
    Calls Try.prog 18 #[.string o, .string g] W fun e W' => e = .returned (.int .i64 (bitsL (bl o) (bl g))) ∧ W' = W := by
  unfold maxLen at hg
  go_enter Try.func18, Try.ntmps18
  go_wp2
  go_loop [5, 6] (fun n i => ∃ k : Nat, k ≤ o.size ∧ i = .int .i64 k ∧ n = .int .i64 (bitsTo (bl o) (bl g) k))
    (fun _ i => o.size - (intOf i).toNat)
  case atStart => exact ⟨0, Nat.zero_le _, rfl, rfl⟩
  case round =>
    obtain ⟨k, hk, rfl, rfl⟩ := hrel
    have hble := bitsTo_le (bl o) (bl g) k
    by_cases hlt : k < o.size
    · have HBS := Lib.hid (bitsTo_succ (bl o) (bl g) k)
      go_wp2
      go_loop [5, 7] (fun n j => ∃ b : Nat, b ≤ 8 ∧ j = .int .i64 b ∧ n = .int .i64 (bitsTo (bl o) (bl g) k + popTo (bandn o[k] (gd (bl g) k 255)) b))
        (fun _ j => 8 - (intOf j).toNat)
      case atStart => exact ⟨0, by omega, rfl, by simp [popTo]⟩
      case round =>
        obtain ⟨b, hb, rfl, rfl⟩ := hrel
        have hpl := popTo_le (bandn o[k] (gd (bl g) k 255)) b
        by_cases hb8 : b < 8
        · have HP := Lib.hid (popTo_succ (bandn o[k] (gd (bl g) k 255)) b)
          have HN := Lib.hid (bitI_bandn o[k] (gd (bl g) k 255) b hb8)
          go_wp2_with (go_at_call 43; refine (at_any _ _ _ _ (by unfold maxLen; omega) (by unfold maxLen; omega)).mono ?_; rintro e w' ⟨rfl, rfl⟩)
          · have h1 : ((bitI o[k] b : Nat) : Int) = 1 := by assumption
            have h2 : (((bitI (gd (bl g) k 255) b : Nat) : Int) == 0) = true := by assumption
            go_round
            case rel => exact ⟨b + 1, by omega, by go_num, by rw [HP.out, HN.out, if_pos ⟨by omega, by simpa using h2⟩]; go_num⟩
            case measure => simp [intOf]; omega
          · have h2 : (((bitI (gd (bl g) k 255) b : Nat) : Int) == 0) = false := by assumption
            go_round
            case rel => exact ⟨b + 1, by omega, by go_num, by rw [HP.out, HN.out, if_neg (fun h => by rw [h.2] at h2; simp at h2)]; rfl⟩
            case measure => simp [intOf]; omega
          · have h1 : ¬ ((bitI o[k] b : Nat) : Int) = 1 := by assumption
            go_round
            case rel => exact ⟨b + 1, by omega, by go_num, by rw [HP.out, HN.out, if_neg (fun h => h1 (by rw [h.1]; rfl))]; rfl⟩
            case measure => simp [intOf]; omega
        · obtain rfl : b = 8 := by omega
          go_wp2
          go_round
          case rel => exact ⟨k + 1, by omega, by go_num, by rw [HBS.out, popTo_8, bitsF, gd_in o k 0 hlt]; go_num⟩
          case measure => simp [intOf]; omega
    · obtain rfl : k = o.size := by omega
      go_wp2
      go_ret
      exact ⟨ret_int (by rw [bitsL, bl_length]), rfl⟩

set_option maxRecDepth 100000 in
set_option maxHeartbeats 1000000 in
theorem refMay (o w g : ByteArray) (W : World) (ho : o.size ≤ 140737488351232) (hw : w.size ≤ maxLen) (hg : g.size ≤ maxLen) :
    Calls Try.prog 28 #[.string o, .string w, .string g] W fun e W' => e = .returned (.bool (mayL (bl o) (bl w) (bl g))) ∧ W' = W := by
  unfold maxLen at hg hw
  by_cases hl : g.size = o.size
  · go_enter Try.func28, Try.ntmps28
    go_wp2
    go_loop [7] (fun i => ∃ k : Nat, k ≤ o.size ∧ i = .int .i64 k ∧ ∀ j, j < k → mayF (bl o) (bl w) (bl g) j = true)
      (fun i => o.size - (intOf i).toNat)
    case atStart => exact ⟨0, Nat.zero_le _, rfl, fun j hj => absurd hj (by omega)⟩
    case round =>
      obtain ⟨k, hk, rfl, hall⟩ := hrel
      have Hall := Lib.hid hall
      clear hall
      by_cases hlt : k < o.size
      · go_wp2
        go_loop [8] (fun j => ∃ b : Nat, b ≤ 8 ∧ j = .int .i64 b ∧ ∀ c, c < b → okB (gd (bl o) k 0) (gd (bl w) k 255) (gd (bl g) k 0) c = true)
          (fun j => 8 - (intOf j).toNat)
        case atStart => exact ⟨0, by omega, rfl, fun c hc => absurd hc (by omega)⟩
        case round =>
          obtain ⟨b, hb, rfl, hok⟩ := hrel
          have Hok := Lib.hid hok
          clear hok
          by_cases hb8 : b < 8
          · go_wp2_with (go_at_call 43; refine (at_any _ _ _ _ (by unfold maxLen; omega) (by unfold maxLen; omega)).mono ?_; rintro e w' ⟨rfl, rfl⟩)
            · have h1 : ((bitI g[k] b : Nat) : Int) = ((bitI o[k] b : Nat) : Int) := by assumption
              have h2 : okB (gd (bl o) k 0) (gd (bl w) k 255) (gd (bl g) k 0) b = true := by
                rw [gd_in o k 0 hlt, gd_in g k 0 (by omega)]
                simp only [okB, Bool.or_eq_true, decide_eq_true_eq]; exact .inl (by omega)
              go_round
              case rel => exact ⟨b + 1, by omega, by go_num, fun c hc => by
                rcases Nat.lt_succ_iff_lt_or_eq.1 hc with h | h
                · exact Hok.out c h
                · rw [h]; exact h2⟩
              case measure => simp [intOf]; omega
            · have h1 : ¬ ((bitI g[k] b : Nat) : Int) = ((bitI o[k] b : Nat) : Int) := by assumption
              have h3 : (((bitI g[k] b : Nat) : Int) != ((bitI o[k] b : Nat) : Int)) = true ∧ (((bitI g[k] b : Nat) : Int) != ((bitI (band o[k] (gd (bl w) k 255)) b : Nat) : Int)) = true := by assumption
              have h2 : okB (gd (bl o) k 0) (gd (bl w) k 255) (gd (bl g) k 0) b = false := by
                rw [gd_in o k 0 hlt, gd_in g k 0 (by omega)]
                simp only [bne_iff_ne] at h3
                simp only [okB, Bool.or_eq_false_iff, decide_eq_false_iff_not]; exact ⟨by omega, by omega⟩
              have h4 : mayF (bl o) (bl w) (bl g) k = false := by
                rw [mayF_eq]
                cases hm : mayB (gd (bl o) k 0) (gd (bl w) k 255) (gd (bl g) k 0) with
                | false => rfl
                | true => rw [(mayB_iff _ _ _).1 hm b hb8] at h2; cases h2
              have h5 := mayL_no_at (bl o) (bl w) (bl g) k (by rw [bl_length]; exact hlt) h4
              go_ret
              exact ⟨ret_bool h5.symm, rfl⟩
            · have h1 : ¬ ((bitI g[k] b : Nat) : Int) = ((bitI o[k] b : Nat) : Int) := by assumption
              have h3 : (((bitI g[k] b : Nat) : Int) != ((bitI o[k] b : Nat) : Int)) = false ∨ (((bitI g[k] b : Nat) : Int) != ((bitI (band o[k] (gd (bl w) k 255)) b : Nat) : Int)) = false := by assumption
              have h2 : okB (gd (bl o) k 0) (gd (bl w) k 255) (gd (bl g) k 0) b = true := by
                rw [gd_in o k 0 hlt, gd_in g k 0 (by omega)]
                simp only [bne_eq_false_iff_eq] at h3
                simp only [okB, Bool.or_eq_true, decide_eq_true_eq]; rcases h3 with h3 | h3
                · exact .inl (by omega)
                · exact .inr (by omega)
              go_round
              case rel => exact ⟨b + 1, by omega, by go_num, fun c hc => by
                rcases Nat.lt_succ_iff_lt_or_eq.1 hc with h | h
                · exact Hok.out c h
                · rw [h]; exact h2⟩
              case measure => simp [intOf]; omega
          · obtain rfl : b = 8 := by omega
            go_wp2
            go_round
            case rel => exact ⟨k + 1, by omega, by go_num, fun c hc => by
                rcases Nat.lt_succ_iff_lt_or_eq.1 hc with h | h
                · exact Hall.out c h
                · rw [h, mayF_eq]; exact (mayB_iff _ _ _).2 Hok.out⟩
            case measure => simp [intOf]; omega
      · obtain rfl : k = o.size := by omega
        have h5 := (mayL_iff (bl o) (bl w) (bl g)).2 ⟨by rw [bl_length, bl_length]; exact hl, fun i hi => Hall.out i (by rw [bl_length] at hi; exact hi)⟩
        have H5 := Lib.hid h5
        clear h5
        go_wp2
        go_ret
        exact ⟨ret_bool H5.out.symm, rfl⟩
  · have H5 := Lib.hid (mayL_no_len (bl o) (bl w) (bl g) (by rw [bl_length, bl_length]; exact hl))
    go_enter Try.func28, Try.ntmps28
    go_wp2
    go_ret
    exact ⟨ret_bool H5.out.symm, rfl⟩
end Go.Proofs.Ytoemjfjmpmngeab

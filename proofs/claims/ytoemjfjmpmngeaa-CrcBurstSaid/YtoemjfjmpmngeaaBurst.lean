/- Bytes that are turned within four side by side have another sum, unless none is turned (CrcBurst); no condition. -/
import Derived.Test.YtoemjfjmpmngeaaCrcLaw
import Derived.ProofKit
import Derived.OpenShut
import Derived.ChangeMaps5
import Derived.Test.YtoemjfjmpmngeaaInts
namespace Go.Proofs.Ytoemjfjmpmngeaa.CrcBurst
open Go.ChangeShapes Go.WideShapes Go.ChangeAt Go.RowKit Go.ChangeMaps
set_option linter.unusedVariables false
attribute [local go_sem] b8_xor
/-- The four bytes that turn. -/
def ys (a b c d : UInt8) : List UInt8 := [a, b, c, d]
/-- The text's bytes, of which k from p on are turned. -/
def turnF (s : ByteArray) (y : List UInt8) (p k : Nat) (i : Nat) : UInt8 := if p ≤ i ∧ i < p + k then bxor (gd (bl s) i 0) (gd y (i - p) 0) else gd (bl s) i 0
def turnL (s : ByteArray) (y : List UInt8) (p k : Nat) : List UInt8 := upto (turnF s y p k) s.size
theorem turnL_length (s : ByteArray) (y : List UInt8) (p k : Nat) : (turnL s y p k).length = s.size := upto_length _ _
theorem turnL_zero (s : ByteArray) (y : List UInt8) (p : Nat) : turnL s y p 0 = bl s :=
  upto_eq' (by rw [bl_length]) fun i hi => by unfold turnF; rw [if_neg (by omega)]
theorem turnL_succ (s : ByteArray) (y : List UInt8) (p k : Nat) (h : p + k < s.size) : turnL s y p (k + 1) = (turnL s y p k).set (p + k) (bxor (gd (turnL s y p k) (p + k) 0) (gd y k 0)) := by
  have hg : gd (turnL s y p k) (p + k) 0 = gd (bl s) (p + k) 0 := by
    rw [turnL, gd_upto', if_pos h, turnF, if_neg (by omega)]
  rw [hg]
  apply List.ext_getElem
  · simp [turnL, upto]
  · intro i h1 h2
    rw [List.getElem_set]
    have hi : i < s.size := by simpa [turnL, upto] using h1
    simp only [turnL, upto, List.getElem_map, List.getElem_range]
    by_cases e : p + k = i
    · subst e; rw [if_pos rfl, turnF, if_pos (by omega), show p + k - p = k from by omega]
    · rw [if_neg e]; unfold turnF
      by_cases e2 : p ≤ i ∧ i < p + k
      · rw [if_pos e2, if_pos (by omega)]
      · rw [if_neg e2, if_neg (by omega)]
/-- Are the first k of the turning bytes 0? -/
def sameTo (y : List UInt8) (k : Nat) : Bool := (List.range k).all fun i => gd y i 0 == 0
theorem sameTo_succ (y : List UInt8) (k : Nat) : sameTo y (k + 1) = (sameTo y k && (gd y k 0 == 0)) := by simp [sameTo, List.range_succ]
theorem upto_append {α : Type} (f : Nat → α) (m n : Nat) : upto f (m + n) = upto f m ++ upto (fun j => f (m + j)) n := by
  simp [upto, List.range_add, Function.comp_def]
theorem upto_eq_iff {α : Type} {f g : Nat → α} {n : Nat} : upto f n = upto g n ↔ ∀ i, i < n → f i = g i := by
  constructor
  · intro h i hi
    have := congrArg (fun l : List α => l[i]?) h
    simpa [upto, hi] using this
  · intro h; unfold upto; exact List.map_congr_left fun i hi => h i (List.mem_range.1 hi)
theorem bxor_self_iff (a x : UInt8) : a = bxor a x ↔ x = 0 := by
  unfold bxor
  constructor
  · intro h
    have h2 : a ^^^ a = a ^^^ (a ^^^ x) := congrArg (a ^^^ ·) h
    rw [← UInt8.xor_assoc, UInt8.xor_self, UInt8.zero_xor] at h2
    exact h2.symm
  · rintro rfl; simp
theorem turn_eq (s : ByteArray) (y : List UInt8) (p k : Nat) (hk : k ≤ 4) (hpk : p + k ≤ s.size) : (sumT (bs (turnL s y p k)) == sumT s) = sameTo y k := by
  obtain ⟨r, hr⟩ : ∃ r, s.size = p + (k + r) := ⟨s.size - p - k, by omega⟩
  have e0 : bl s = upto (fun i => gd (bl s) i 0) p ++ upto (fun j => gd (bl s) (p + j) 0) k ++ upto (fun j => gd (bl s) (p + (k + j)) 0) r := by
    have h : upto (fun i => gd (bl s) i 0) (p + (k + r)) = bl s := upto_eq' (by rw [bl_length]; exact hr) fun i _ => rfl
    rw [upto_append, upto_append] at h
    rw [List.append_assoc]; exact h.symm
  have e1 : bl (bs (turnL s y p k)) = upto (fun i => gd (bl s) i 0) p ++ upto (fun j => bxor (gd (bl s) (p + j) 0) (gd y j 0)) k ++ upto (fun j => gd (bl s) (p + (k + j)) 0) r := by
    rw [bl_bs, turnL, hr, upto_append, upto_append, List.append_assoc]
    congr 1
    · exact upto_eq_iff.2 fun i hi => by unfold turnF; rw [if_neg (by omega)]
    · congr 1
      · exact upto_eq_iff.2 fun j hj => by unfold turnF; rw [if_pos (by omega), show p + j - p = j from by omega]
      · exact upto_eq_iff.2 fun j hj => by unfold turnF; rw [if_neg (by omega)]
  have h := sumT_burst _ _ _ _ s (bs (turnL s y p k)) e0 e1 (by rw [upto_length]; exact hk) (by rw [upto_length, upto_length])
  have h2 : sumT (bs (turnL s y p k)) = sumT s ↔ sameTo y k = true := by
    rw [eq_comm, h, upto_eq_iff]
    unfold sameTo
    rw [List.all_eq_true]
    constructor
    · intro hh i hi
      rw [beq_iff_eq]; exact (bxor_self_iff _ _).1 (hh i (List.mem_range.1 hi))
    · intro hh i hi
      have := hh i (List.mem_range.2 hi)
      rw [beq_iff_eq] at this
      exact (bxor_self_iff _ _).2 this
  cases hs : sameTo y k with
  | true => exact beq_iff_eq.2 (h2.2 hs)
  | false => exact beq_eq_false_iff_ne.2 (fun e => by rw [h2.1 e] at hs; cases hs)
theorem u8_beq0 (x : UInt8) : (((x.toNat : Nat) : Int) == 0) = (x == 0) := by
  by_cases h : x = 0
  · subst h; rfl
  · have h2 : x.toNat ≠ 0 := fun e => h (UInt8.toNat_inj.1 e)
    rw [beq_eq_false_iff_ne.2 (by omega : ((x.toNat : Nat) : Int) ≠ 0), beq_eq_false_iff_ne.2 h]

set_option maxRecDepth 100000 in
set_option maxHeartbeats 4000000 in
theorem walk (s : ByteArray) (q : Int) (a : UInt8) (b : UInt8) (c : UInt8) (d : UInt8) (W : World) (hs : s.size ≤ maxLen) (hq : -9223372036854775808 ≤ q ∧ q ≤ 9223372036854775807) :
    Calls Try.prog 10 #[.string s, .int .i64 q, .int .u8 (a.toNat : Int), .int .u8 (b.toNat : Int), .int .u8 (c.toNat : Int), .int .u8 (d.toNat : Int)] W fun e W' => e = .returned (.bool true) ∧ Below W.heap.size W W' := by
  unfold maxLen at hs
  obtain ⟨hq1, hq2⟩ := hq
  by_cases hl : 200 < s.size
  · go_enter Try.func10, Try.ntmps10
    go_wp2_with fail
    refine (shown2 _).mono ?_
    rintro e W2 ⟨rfl, h2⟩
    go_wp2
    go_ret
    exact ⟨rfl, h2⟩
  · have hl2 : s.size ≤ 200 := by omega
    by_cases hl3 : q < 0
    · go_enter Try.func10, Try.ntmps10
      go_wp2_with fail
      refine (shown2 _).mono ?_
      rintro e W2 ⟨rfl, h2⟩
      go_wp2
      go_ret
      exact ⟨rfl, h2⟩
    · obtain ⟨p, rfl⟩ := Int.eq_ofNat_of_zero_le (by omega : 0 ≤ q)
      by_cases hl4 : (s.size : Int) ≤ p
      · go_enter Try.func10, Try.ntmps10
        go_wp2_with fail
        refine (shown2 _).mono ?_
        rintro e W2 ⟨rfl, h2⟩
        go_wp2
        go_ret
        exact ⟨rfl, h2⟩
      · have h1 : p < s.size := by omega
        clear hl hl3 hq1 hq2
        have Hz := Lib.hid (turnL_zero s (ys a b c d) p)
        go_enter Try.func10, Try.ntmps10
        go_wp2_with fail
        refine (shown2 _).mono ?_
        rintro e W2 ⟨rfl, hB⟩
        have hW2 := hB.size
        have hcv := run_bytes_of_string (P := Try.prog) W2 9 29 5 s Try.underlying9 Try.underlying29 Try.underlying5
        go_wp2
        have bT := ((BRow.ofString W2 s 5 (grownCap W2 s.size 0 5) (bytesRow s (grownCap W2 s.size 0 5)).size (bytesRow_size _ _)).alloc (.cells #[.int .u8 (a.toNat : Int), .int .u8 (b.toNat : Int), .int .u8 (c.toNat : Int), .int .u8 (d.toNat : Int)] 5)).drew
        have bY := (BRow.lit (W2.alloc (.cells (bytesRow s (grownCap W2 s.size 0 5)) 5 ((bytesRow s (grownCap W2 s.size 0 5)).size, (bytesRow s (grownCap W2 s.size 0 5)).size + 1))) (ys a b c d) 5).drew
        rw [show ((ys a b c d).map b8v).toArray = #[.int .u8 (a.toNat : Int), .int .u8 (b.toNat : Int), .int .u8 (c.toNat : Int), .int .u8 (d.toNat : Int)] from rfl, World.size_alloc] at bY
        replace hB := ((hB.alloc hB.size (.cells (bytesRow s (grownCap W2 s.size 0 5)) 5 ((bytesRow s (grownCap W2 s.size 0 5)).size, (bytesRow s (grownCap W2 s.size 0 5)).size + 1))).alloc (by have := hB.size; simp; omega) (.cells #[.int .u8 (a.toNat : Int), .int .u8 (b.toNat : Int), .int .u8 (c.toNat : Int), .int .u8 (d.toNat : Int)] 5)).drew
        rw [← Hz.out] at bT
        have hg0 : W.heap.size ≤ W2.heap.size := hW2
        clear hcv
        generalize ((W2.alloc (.cells (bytesRow s (grownCap W2 s.size 0 5)) 5 ((bytesRow s (grownCap W2 s.size 0 5)).size, (bytesRow s (grownCap W2 s.size 0 5)).size + 1))).alloc (.cells #[.int .u8 (a.toNat : Int), .int .u8 (b.toNat : Int), .int .u8 (c.toNat : Int), .int .u8 (d.toNat : Int)] 5)).drew = W3 at bT bY hB ⊢
        generalize grownCap W2 s.size 0 5 = cap
        generalize W2.heap.size = g at bT bY hg0 ⊢
        obtain ⟨Y, hY⟩ : ∃ Y, ys a b c d = Y := ⟨_, rfl⟩
        have hYl : Y.length = 4 := by rw [← hY]; rfl
        rw [hY] at bT bY
        clear hY Hz
        go_loopw [15, 16] (fun v i wr => ∃ k : Nat, k ≤ 4 ∧ p + k ≤ s.size ∧ i = .int .i64 k ∧ v = .bool (sameTo Y k) ∧ BRow wr g (turnL s Y p k) ∧ BRow wr (g + 1) Y ∧ Below W.heap.size W wr)
          (fun _ i _ => 4 - (intOf i).toNat)
        case atStart => exact ⟨0, by omega, by omega, rfl, rfl, bT, bY, hB⟩
        case round =>
          clear hB bT bY
          obtain ⟨k, hk, hpk, rfl, rfl, bT, bY, hB⟩ := hrel
          by_cases hlt : k < 4 ∧ p + k < s.size
          · obtain ⟨g1, g2⟩ := hlt
            have hTl := turnL_length s Y p k
            have c1 := bT.cell (j := p + k) (by omega)
            have f1 := bT.frozen (j := p + k) (by omega)
            have c2 := bY.cell (j := k) (by omega)
            have w1 : IntKind.i64.wrap ((p : Int) + (k : Int)) = (p : Int) + (k : Int) := by rw [IntKind.wrap_i64]; omega
            have n1 : ((p : Int) + (k : Int)).toNat = p + k := by omega
            have g3 : (0 : Int) ≤ (p : Int) + (k : Int) := by omega
            have g4 : (p : Int) + (k : Int) < (s.size : Int) := by omega
            have bT2 := bT.set (k := p + k) (by omega) (bxor (gd (turnL s Y p k) (p + k) 0) (gd Y k 0))
            rw [← turnL_succ s Y p k g2] at bT2
            have bY2 := bY.other (b := g) (k := p + k) (by omega) (.int .u8 ((bxor (gd (turnL s Y p k) (p + k) 0) (gd Y k 0)).toNat : Int))
            have hB2 := hB.setCell (p := ⟨g, p + k, none⟩) hg0 (.int .u8 ((bxor (gd (turnL s Y p k) (p + k) 0) (gd Y k 0)).toNat : Int))
            have hs2 := sameTo_succ Y k
            clear hTl hB bT bY
            generalize sameTo Y k = sm at hs2 ⊢
            have HS := Lib.hid hs2
            clear hs2
            cases sm
            · go_wp2
              go_region
              go_wp2
              go_roundw
              case rel => exact ⟨k + 1, by omega, by omega, by go_num, by rw [HS.out]; rfl, bT2.drew, bY2.drew, hB2.drew⟩
              case measure => simp [intOf]; omega
            · go_wp2
              go_region
              go_wp2
              go_roundw
              case rel => exact ⟨k + 1, by omega, by omega, by go_num, by rw [HS.out, u8_beq0, Bool.true_and], bT2.drew, bY2.drew, hB2.drew⟩
              case measure => simp [intOf]; omega
          · have HF := Lib.hid (turn_eq s Y p k hk hpk)
            have hcv := bT.string (P := Try.prog) (src := 29) (dst := 9) Try.underlying29 Try.underlying5 Try.underlying9 cap
            rw [turnL_length] at hcv
            have hzz : (bs (turnL s Y p k)).size ≤ maxLen := by rw [bs_size, turnL_length]; unfold maxLen; omega
            have hcase : k = 4 ∨ (k < 4 ∧ p + k = s.size) := by omega
            have w1 : IntKind.i64.wrap ((p : Int) + (k : Int)) = (p : Int) + (k : Int) := by rw [IntKind.wrap_i64]; omega
            clear hlt bT bY
            rcases hcase with h4 | ⟨h4, h5⟩
            · subst h4
              go_wp2_with fail
              refine (crcSum _ _ hzz).mono ?_
              rintro e W3 ⟨rfl, h3⟩
              replace hB := below_seq hB h3
              clear h3
              go_wp2_with fail
              refine (crcSum _ _ (by unfold maxLen; omega)).mono ?_
              rintro e W4 ⟨rfl, h4⟩
              replace hB := below_seq hB h4
              clear h4
              go_wp2
              go_ret
              exact ⟨ret_bool (by rw [HF.out]; exact beq_self_eq_true _), hB⟩
            · have g4 : ¬ (p : Int) + (k : Int) < (s.size : Int) := by omega
              clear h5
              go_wp2_with fail
              refine (crcSum _ _ hzz).mono ?_
              rintro e W3 ⟨rfl, h3⟩
              replace hB := below_seq hB h3
              clear h3
              go_wp2_with fail
              refine (crcSum _ _ (by unfold maxLen; omega)).mono ?_
              rintro e W4 ⟨rfl, h4⟩
              replace hB := below_seq hB h4
              clear h4
              go_wp2
              go_ret
              exact ⟨ret_bool (by rw [HF.out]; exact beq_self_eq_true _), hB⟩

theorem own : ownKnob Try.prog.godebug = none := by kernel_rfl

set_option maxRecDepth 100000 in
theorem lifted (os : Os) (started : os.Started) (H : Type) (enc : TypeId × Value → H) :
    ReturnsInHanded {} Try.checked os 10 .any (Rows.crcBurstSpec.pre6 enc Try.prog Try.f10 Rows.crcBurstRow.domain false) (Rows.crcBurstSpec.post enc Try.prog Try.f10 false true false false) := by
  refine returnsInHanded_of_change (C := Try.checked) own started (by kernel_rfl) Try.func10
    (ChangeSpec.witness6 (enc := enc) (C := Try.checked) false ⟨#[], #[.string ⟨#[]⟩, .int .i64 0, .int .u8 0, .int .u8 0, .int .u8 0, .int .u8 0], []⟩ 8 (by kernel_rfl) (by kernel_rfl) (by kernel_rfl) (by kernel_rfl)) ?_
  intro W base args ds gs before hval hW _ _
  have hW' := hW
  obtain ⟨p, q, hA0, hV, rfl, hfz, hnd⟩ := hW
  have hA : DataW.TrodAll enc Try.prog W 0 (fun _ => true) true Try.f10.params.toList args.toList ds p := hA0
  rw [Try.params10] at hA hval
  obtain ⟨v0, vs0, d0, ds0, p0, q0, hargs, rfl, rfl, h0, r0⟩ := trodAll_cons hA
  obtain ⟨v1, vs1, d1, ds1, p1, q1, rfl, rfl, rfl, h1, r1⟩ := trodAll_cons r0
  obtain ⟨v2, vs2, d2, ds2, p2, q2, rfl, rfl, rfl, h2, r2⟩ := trodAll_cons r1
  obtain ⟨v3, vs3, d3, ds3, p3, q3, rfl, rfl, rfl, h3, r3⟩ := trodAll_cons r2
  obtain ⟨v4, vs4, d4, ds4, p4, q4, rfl, rfl, rfl, h4, r4⟩ := trodAll_cons r3
  obtain ⟨v5, vs5, d5, ds5, p5, q5, rfl, rfl, rfl, h5, r5⟩ := trodAll_cons r4
  obtain ⟨rfl, rfl, rfl⟩ := trodAll_nil r5
  obtain rfl : args = #[v0, v1, v2, v3, v4, v5] := by cases args; simp_all
  obtain ⟨rfl, rfl⟩ := trodVars_none hV
  obtain ⟨s0, rfl, rfl, rfl, hs0⟩ := open_string Try.underlying9 (hval 0 9 v0 rfl rfl) h0
  obtain ⟨a1, rfl, rfl, rfl, w1⟩ := open_int Try.underlying3 (hval 1 3 v1 rfl rfl) h1
  obtain ⟨a2, rfl, rfl, rfl, w2⟩ := open_int Try.underlying5 (hval 2 5 v2 rfl rfl) h2
  obtain ⟨c2, rfl⟩ := int_u8 w2
  obtain ⟨a3, rfl, rfl, rfl, w3⟩ := open_int Try.underlying5 (hval 3 5 v3 rfl rfl) h3
  obtain ⟨c3, rfl⟩ := int_u8 w3
  obtain ⟨a4, rfl, rfl, rfl, w4⟩ := open_int Try.underlying5 (hval 4 5 v4 rfl rfl) h4
  obtain ⟨c4, rfl⟩ := int_u8 w4
  obtain ⟨a5, rfl, rfl, rfl, w5⟩ := open_int Try.underlying5 (hval 5 5 v5 rfl rfl) h5
  obtain ⟨c5, rfl⟩ := int_u8 w5
  clear hA0
  simp only [List.append_nil] at hW'
  refine (walk s0 a1 c2 c3 c4 c5 W hs0 (int_i64 w1)).mono fun e W' ⟨he, hB⟩ => ?_
  subst he
  exact ⟨_, rfl, ⟨_, _, _, [], [], [], hW', trodAll_cons_mk (shut_bool Try.underlying4 _) trodAll_mk0, (trodAll_cons_mk (shut_string Try.underlying9 hs0) (trodAll_cons_mk (shut_int Try.underlying3 w1) (trodAll_cons_mk (shut_int Try.underlying5 w2) (trodAll_cons_mk (shut_int Try.underlying5 w3) (trodAll_cons_mk (shut_int Try.underlying5 w4) (trodAll_cons_mk (shut_int Try.underlying5 w5) trodAll_mk0)))))), rfl, hB.frame _, fun h => by cases h⟩⟩

theorem holds : Rows.CrcBurstSaid :=
  OpenClaim.holds_of_wide 10 Try.f10 rfl rfl rfl rfl rfl rfl rfl ⟨rfl, rfl, rfl, rfl, rfl⟩ rfl rfl rfl rfl rfl (by kernel_rfl) Try.func10 (by kernel_rfl)
    (of_decide_eq_true (by kernel_rfl)) (by unfold Func.isWrapper; first | (rw [if_pos (by decide +kernel)]; kernel_rfl) | (rw [if_neg (by decide +kernel)]; exact ⟨rfl, rfl⟩))
    (fun os started H enc _ => lifted os started H enc)
end Go.Proofs.Ytoemjfjmpmngeaa.CrcBurst

/- The laws' own helpers of layer 1: contracts only. -/
import Derived.Test.YtoemjfjmpmngeaaMay
import Derived.Test.YtoemjfjmpmngeaaPlain
namespace Go.Proofs.Ytoemjfjmpmngeaa
open Go.RowKit
set_option linter.unusedVariables false

theorem below_seq {W W1 W2 : World} (h : Below W.heap.size W W1) (k : Below W1.heap.size W1 W2) : Below W.heap.size W W2 := h.trans (k.mono h.size)

/-- Is one of the texts longer than the document's bound? -/
def longB (ss : List ByteArray) : Bool := ss.any fun s => decide (500 < s.size)
theorem longB_no {ss : List ByteArray} (h : longB ss = false) {s : ByteArray} (hs : s ∈ ss) : s.size ≤ 500 := by
  have := List.any_eq_false.1 h s hs
  simpa using this

set_option maxHeartbeats 1000000 in
theorem long_any (b c : Nat) (ss : List ByteArray) (W : World) (hl : ss.length ≤ 1000) (hc : ∀ j (h : j < ss.length), W.cell? ⟨b, j, none⟩ = some (.string ss[j])) (hm : ∀ s ∈ ss, s.size ≤ maxLen) :
    Calls Try.prog 15 #[.slice (some ⟨b, 0, none⟩) ss.length c] W fun e W' => e = .returned (.bool (longB ss)) ∧ W = W' := by
  have Hc := Lib.hid hc
  have Hm := Lib.hid hm
  clear hc hm
  go_enter Try.func15, Try.ntmps15
  go_wp2
  go_loop [3] (fun i => ∃ k : Nat, k ≤ ss.length ∧ i = .int .i64 k ∧ ∀ j (h : j < ss.length), j < k → ss[j].size ≤ 500)
    (fun i => ss.length - (intOf i).toNat)
  case atStart => exact ⟨0, Nat.zero_le _, rfl, fun j _ h => absurd h (by omega)⟩
  case round =>
    obtain ⟨k, hk, rfl, hall⟩ := hrel
    have Hall := Lib.hid hall
    clear hall
    by_cases hlt : k < ss.length
    · have hck := Hc.out k hlt
      have hmk := Hm.out ss[k] (List.getElem_mem hlt)
      unfold maxLen at hmk
      by_cases hs : 500 < ss[k].size
      · have H5 := Lib.hid (List.any_eq_true.2 ⟨ss[k], List.getElem_mem hlt, by simpa using hs⟩ : longB ss = true)
        go_wp2
        go_ret
        exact ⟨ret_bool H5.out.symm, rfl⟩
      · go_wp2
        go_round
        case rel => exact ⟨k + 1, by omega, by go_num, fun j h hj => by
          rcases Nat.lt_succ_iff_lt_or_eq.1 hj with h1 | h1
          · exact Hall.out j h h1
          · subst h1; omega⟩
        case measure => simp [intOf]; omega
    · obtain rfl : k = ss.length := by omega
      have H5 := Lib.hid (List.any_eq_false.2 (fun s hs => by
        obtain ⟨j, hj, rfl⟩ := List.getElem_of_mem hs
        have := Hall.out j hj hj
        simp; omega) : longB ss = false)
      go_wp2
      go_ret
      exact ⟨ret_bool H5.out.symm, rfl⟩

set_option maxRecDepth 100000 in
set_option maxHeartbeats 2000000 in
theorem shown_any (W : World) : Calls Try.prog 16 #[] W fun e W' => e = .returned (.bool true) ∧ Below W.heap.size W W' := by
  have t1 : ∀ W, Calls Try.prog 19 #[.string ⟨#[255]⟩, .string ⟨#[15]⟩, .string ⟨#[129]⟩] W fun e W' => e = .returned (.string ⟨#[127]⟩) ∧ Below W.heap.size W W' := fun W => by
    have h := clrTorn ⟨#[255]⟩ ⟨#[15]⟩ ⟨#[129]⟩ W (by decide) (by decide) (by decide)
    rwa [show tornB ⟨#[255]⟩ ⟨#[15]⟩ ⟨#[129]⟩ = ⟨#[127]⟩ from by kernel_rfl] at h
  have t2 : ∀ W, Calls Try.prog 17 #[.string ⟨#[255, 1]⟩, .string ⟨#[15]⟩] W fun e W' => e = .returned (.string ⟨#[15, 1]⟩) ∧ Below W.heap.size W W' := fun W => by
    have h := clrAnd ⟨#[255, 1]⟩ ⟨#[15]⟩ W (by decide) (by decide)
    rwa [show andB ⟨#[255, 1]⟩ ⟨#[15]⟩ = ⟨#[15, 1]⟩ from by kernel_rfl] at h
  have t3 : ∀ W, Calls Try.prog 21 #[.string ⟨#[255]⟩, .string ⟨#[15]⟩, .string ⟨#[127]⟩] W fun e W' => e = .returned (.bool true) ∧ Below W.heap.size W W' := fun W => by
    have h := clrMay ⟨#[255]⟩ ⟨#[15]⟩ ⟨#[127]⟩ W (by decide) (by decide) (by decide)
    rwa [show mayL (bl ⟨#[255]⟩) (bl ⟨#[15]⟩) (bl ⟨#[127]⟩) = true from by kernel_rfl] at h
  have t4 : ∀ W, Calls Try.prog 21 #[.string ⟨#[255]⟩, .string ⟨#[15]⟩, .string ⟨#[14]⟩] W fun e W' => e = .returned (.bool false) ∧ Below W.heap.size W W' := fun W => by
    have h := clrMay ⟨#[255]⟩ ⟨#[15]⟩ ⟨#[14]⟩ W (by decide) (by decide) (by decide)
    rwa [show mayL (bl ⟨#[255]⟩) (bl ⟨#[15]⟩) (bl ⟨#[14]⟩) = false from by kernel_rfl] at h
  have t5 : ∀ W, Calls Try.prog 23 #[.string ⟨#[255]⟩, .string ⟨#[15]⟩] W fun e W' => e = .returned (.int .i64 4) ∧ Below W.heap.size W W' := fun W => by
    have h := clrBits ⟨#[255]⟩ ⟨#[15]⟩ W (by decide) (by decide)
    rwa [show bitsL (bl ⟨#[255]⟩) (bl ⟨#[15]⟩) = 4 from by kernel_rfl] at h
  have T1 := Lib.hid t1
  have T2 := Lib.hid t2
  have T3 := Lib.hid t3
  have T4 := Lib.hid t4
  have T5 := Lib.hid t5
  clear t1 t2 t3 t4 t5
  go_enter Try.func16, Try.ntmps16
  go_wp2_with fail
  refine (T1.out _).mono ?_
  rintro e W1 ⟨rfl, h1⟩
  go_wp2_with fail
  refine (T2.out _).mono ?_
  rintro e W2 ⟨rfl, h2⟩
  go_wp2_with fail
  refine (T3.out _).mono ?_
  rintro e W3 ⟨rfl, h3⟩
  go_wp2_with fail
  refine (T4.out _).mono ?_
  rintro e W4 ⟨rfl, h4⟩
  go_wp2_with fail
  refine (T5.out _).mono ?_
  rintro e W5 ⟨rfl, h5⟩
  go_wp2
  go_ret
  exact ⟨rfl, h1.trans ((h2.mono h1.size).trans ((h3.mono (Nat.le_trans h1.size h2.size)).trans ((h4.mono (Nat.le_trans (Nat.le_trans h1.size h2.size) h3.size)).trans (h5.mono (Nat.le_trans (Nat.le_trans (Nat.le_trans h1.size h2.size) h3.size) h4.size)))))⟩
end Go.Proofs.Ytoemjfjmpmngeaa

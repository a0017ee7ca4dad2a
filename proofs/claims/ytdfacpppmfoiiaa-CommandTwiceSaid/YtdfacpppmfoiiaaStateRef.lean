/- The document's own answers of layer 14: contracts only. -/
import Derived.Test.YtdfacpppmfoiiaaRows
import Derived.Test.YtdfacpppmfoiiaaStatePlain
import Derived.Test.YtdfacpppmfoiiaaFieldRef
import Derived.Test.YtdfacpppmfoiiaaBs
import Derived.WalkKit
import Derived.ProofKit
import Derived.Lib.Hide
import Derived.OwnWalk
import Derived.Deep.RegionHeld3
import Derived.WalkLawsBesides
namespace Go.Proofs.Ytdfacpppmfoiiaa
open Go.RowKit
set_option linter.unusedVariables false
set_option linter.unusedSimpArgs false

theorem not_legal {s : St} (h : ¬ Legal s) : legalB s = false := by
  cases k : legalB s with
  | false => rfl
  | true => exact absurd ((legal_iff s).1 k) h

set_option maxRecDepth 100000 in
set_option maxHeartbeats 4000000 in
theorem ref14Legal (s : St) (W : World) : Gives Try.prog 10 #[.agg #[.int .i64 s.mode, .bool s.armed, .bool s.home, .int .i64 s.lat, .int .i64 s.lon, .int .i64 s.iso]] W (.bool (legalB s)) := by
  by_cases c1 : s.mode < 0
  · rw [not_legal (fun k => by have := k.m; omega)]
    have st := Bs.in1 W 28 [.int .i64 s.mode, .bool s.armed, .bool s.home, .int .i64 s.lat, .int .i64 s.lon, .int .i64 s.iso]
    go_enter Try.func10, Try.ntmps10
    have fc0 := (st.box 0 rfl).f6
    go_wp2; go_ret; exact ⟨rfl, st.lo⟩
  · skip
    by_cases c2 : s.mode > 5
    · rw [not_legal (fun k => by have := k.m; omega)]
      have st := Bs.in1 W 28 [.int .i64 s.mode, .bool s.armed, .bool s.home, .int .i64 s.lat, .int .i64 s.lon, .int .i64 s.iso]
      go_enter Try.func10, Try.ntmps10
      have fc0 := (st.box 0 rfl).f6
      go_wp2; go_ret; exact ⟨rfl, st.lo⟩
    · skip
      by_cases c3 : s.iso < 0
      · rw [not_legal (fun k => by have := k.i; omega)]
        have st := Bs.in1 W 28 [.int .i64 s.mode, .bool s.armed, .bool s.home, .int .i64 s.lat, .int .i64 s.lon, .int .i64 s.iso]
        go_enter Try.func10, Try.ntmps10
        have fc0 := (st.box 0 rfl).f6
        go_wp2; go_ret; exact ⟨rfl, st.lo⟩
      · skip
        by_cases c4 : s.iso > 15
        · rw [not_legal (fun k => by have := k.i; omega)]
          have st := Bs.in1 W 28 [.int .i64 s.mode, .bool s.armed, .bool s.home, .int .i64 s.lat, .int .i64 s.lon, .int .i64 s.iso]
          go_enter Try.func10, Try.ntmps10
          have fc0 := (st.box 0 rfl).f6
          go_wp2; go_ret; exact ⟨rfl, st.lo⟩
        · skip
          by_cases c5 : s.lat < -737280
          · rw [not_legal (fun k => by have := k.a; omega)]
            have st := Bs.in1 W 28 [.int .i64 s.mode, .bool s.armed, .bool s.home, .int .i64 s.lat, .int .i64 s.lon, .int .i64 s.iso]
            go_enter Try.func10, Try.ntmps10
            have fc0 := (st.box 0 rfl).f6
            go_wp2; go_ret; exact ⟨rfl, st.lo⟩
          · skip
            by_cases c6 : s.lat > 737280
            · rw [not_legal (fun k => by have := k.a; omega)]
              have st := Bs.in1 W 28 [.int .i64 s.mode, .bool s.armed, .bool s.home, .int .i64 s.lat, .int .i64 s.lon, .int .i64 s.iso]
              go_enter Try.func10, Try.ntmps10
              have fc0 := (st.box 0 rfl).f6
              go_wp2; go_ret; exact ⟨rfl, st.lo⟩
            · skip
              by_cases c7 : s.lon < -1474560
              · rw [not_legal (fun k => by have := k.o; omega)]
                have st := Bs.in1 W 28 [.int .i64 s.mode, .bool s.armed, .bool s.home, .int .i64 s.lat, .int .i64 s.lon, .int .i64 s.iso]
                go_enter Try.func10, Try.ntmps10
                have fc0 := (st.box 0 rfl).f6
                go_wp2; go_ret; exact ⟨rfl, st.lo⟩
              · skip
                by_cases c8 : s.lon > 1474560
                · rw [not_legal (fun k => by have := k.o; omega)]
                  have st := Bs.in1 W 28 [.int .i64 s.mode, .bool s.armed, .bool s.home, .int .i64 s.lat, .int .i64 s.lon, .int .i64 s.iso]
                  go_enter Try.func10, Try.ntmps10
                  have fc0 := (st.box 0 rfl).f6
                  go_wp2; go_ret; exact ⟨rfl, st.lo⟩
                · skip
                  cases hh : s.home with
                  | true =>
                    rw [show legalB s = true from (legal_iff s).2 ⟨by omega, by omega, by omega, by omega, Or.inl hh⟩]
                    clear hh
                    have st := Bs.in1 W 28 [.int .i64 s.mode, .bool s.armed, .bool true, .int .i64 s.lat, .int .i64 s.lon, .int .i64 s.iso]
                    go_enter Try.func10, Try.ntmps10
                    have fc0 := (st.box 0 rfl).f6
                    go_wp2; go_ret; exact ⟨rfl, st.lo⟩
                  | false =>
                    by_cases z1 : s.lat = 0
                    · by_cases z2 : s.lon = 0
                      · rw [show legalB s = true from (legal_iff s).2 ⟨by omega, by omega, by omega, by omega, Or.inr ⟨z1, z2⟩⟩]
                        have y1 : (s.lat == 0) = true := beq_iff_eq.2 z1
                        have y2 : (s.lon == 0) = true := beq_iff_eq.2 z2
                        clear z1 z2 hh
                        have st := Bs.in1 W 28 [.int .i64 s.mode, .bool s.armed, .bool false, .int .i64 s.lat, .int .i64 s.lon, .int .i64 s.iso]
                        go_enter Try.func10, Try.ntmps10
                        have fc0 := (st.box 0 rfl).f6
                        go_wp2; go_ret; exact ⟨rfl, st.lo⟩
                      · rw [not_legal (fun k => k.h.elim (fun l => by rw [hh] at l; cases l) (fun l => z2 l.2))]
                        have y1 : (s.lat == 0) = true := beq_iff_eq.2 z1
                        have y2 : (s.lon == 0) = false := beq_eq_false_iff_ne.2 z2
                        clear z1 z2 hh
                        have st := Bs.in1 W 28 [.int .i64 s.mode, .bool s.armed, .bool false, .int .i64 s.lat, .int .i64 s.lon, .int .i64 s.iso]
                        go_enter Try.func10, Try.ntmps10
                        have fc0 := (st.box 0 rfl).f6
                        go_wp2; go_ret; exact ⟨rfl, st.lo⟩
                    · rw [not_legal (fun k => k.h.elim (fun l => by rw [hh] at l; cases l) (fun l => z1 l.1))]
                      have y1 : (s.lat == 0) = false := beq_eq_false_iff_ne.2 z1
                      clear z1 hh
                      have st := Bs.in1 W 28 [.int .i64 s.mode, .bool s.armed, .bool false, .int .i64 s.lat, .int .i64 s.lon, .int .i64 s.iso]
                      go_enter Try.func10, Try.ntmps10
                      have fc0 := (st.box 0 rfl).f6
                      go_wp2; go_ret; exact ⟨rfl, st.lo⟩

theorem i64_and1 (n : Int) : bits .and .i64 n 1 = n % 2 := by
  have h1 : (BitVec.ofInt 64 1).toNat = 2 ^ 1 - 1 := by decide
  have key : (BitVec.ofInt 64 n &&& BitVec.ofInt 64 1).toNat = (n % ((2 ^ 64 : Nat) : Int)).toNat % 2 ^ 1 := by
    rw [BitVec.toNat_and, BitVec.toNat_ofInt, h1, Nat.and_two_pow_sub_one_eq_mod]
  show IntKind.i64.wrap ((BitVec.ofInt 64 n &&& BitVec.ofInt 64 1).toNat : Nat) = n % 2
  rw [key, IntKind.wrap_i64]
  omega

set_option maxRecDepth 100000 in
set_option maxHeartbeats 4000000 in
theorem ref14Sound (s : St) (W : World) : Gives Try.prog 20 #[.agg #[.int .i64 s.mode, .bool s.armed, .bool s.home, .int .i64 s.lat, .int .i64 s.lon, .int .i64 s.iso]] W (.int .i64 ((soundN s.iso : Nat) : Int)) := by
  have st := Bs.in1 W 28 [.int .i64 s.mode, .bool s.armed, .bool s.home, .int .i64 s.lat, .int .i64 s.lon, .int .i64 s.iso]
  go_enter Try.func20, Try.ntmps20
  have fc0 := (st.box 0 rfl).f6
  go_wp2
  generalize W.alloc (.cells #[.int .i64 s.mode, .bool s.armed, .bool s.home, .int .i64 s.lat, .int .i64 s.lon, .int .i64 s.iso] 28) = V at *
  go_loop [3, 4] (fun n i => ∃ k : Nat, k ≤ 4 ∧ i = .int .i64 (k : Int) ∧ n = .int .i64 ((soundTo s.iso k : Nat) : Int))
    (fun _ i => 4 - (intOf i).toNat)
  case atStart => exact ⟨0, by omega, rfl, rfl⟩
  case round =>
    obtain ⟨k, hk, rfl, rfl⟩ := hrel
    by_cases hlt : k < 4
    · have s1 : (k : Int) < 64 := by omega
      have s2 : (k : Int) < 4 := by omega
      have hle := soundTo_le s.iso k
      have hb := i64_and1 (s.iso / 2 ^ k)
      by_cases hz : s.iso / 2 ^ k % 2 = 0
      · rw [hz] at hb
        have hS := Lib.hid (show soundTo s.iso (k + 1) = soundTo s.iso k + 1 from by show soundTo s.iso k + bitZ s.iso k = _; unfold bitZ; rw [if_pos hz])
        clear hz
        go_wp2
        go_round
        case rel => exact ⟨k + 1, by omega, by go_num, by rw [hS.out]; go_num⟩
        case measure => simp [intOf]; omega
      · have hb2 : (bits .and .i64 (s.iso / 2 ^ k) 1 == 0) = false := by rw [hb]; exact beq_eq_false_iff_ne.2 hz
        have hS := Lib.hid (show soundTo s.iso (k + 1) = soundTo s.iso k from by show soundTo s.iso k + bitZ s.iso k = _; unfold bitZ; rw [if_neg hz]; rfl)
        clear hz hb
        go_wp2
        go_round
        case rel => exact ⟨k + 1, by omega, by go_num, by rw [hS.out]⟩
        case measure => simp [intOf]; omega
    · obtain rfl : k = 4 := by omega
      have H := Lib.hid (show ((soundTo s.iso 4 : Nat) : Int) = ((soundN s.iso : Nat) : Int) from by rw [soundTo_four])
      go_wp2
      go_ret
      exact ⟨ret_int H.out, st.lo⟩

end Go.Proofs.Ytdfacpppmfoiiaa

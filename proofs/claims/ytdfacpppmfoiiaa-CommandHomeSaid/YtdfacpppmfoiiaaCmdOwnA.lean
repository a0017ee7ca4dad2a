/- The program's own functions of layer 16: what a command asks: contracts only. -/
import Derived.Test.YtdfacpppmfoiiaaRows
import Derived.Test.YtdfacpppmfoiiaaCmdPlain
import Derived.Test.YtdfacpppmfoiiaaFixedOwn
import Derived.Test.YtdfacpppmfoiiaaStateOwn
import Derived.Test.YtdfacpppmfoiiaaTableOwn
import Derived.Test.YtdfacpppmfoiiaaLaid
import Derived.Test.YtdfacpppmfoiiaaInts
import Derived.Test.YtdfacpppmfoiiaaBase
import Derived.Test.YtdfacpppmfoiiaaBs
import Derived.Test.YtdfacpppmfoiiaaIntsAt
import Derived.Test.YtdfacpppmfoiiaaFree
import Derived.WalkKit
import Derived.ProofKit
import Derived.OpenShut
import Derived.ChangeMaps5
import Derived.Carry
import Derived.OwnWalk
import Derived.Lib.Hide
import Derived.Deep.RegionHeld3
import Derived.BigQuiet
import Derived.Deep.QuietTactic
import Derived.Deep.CutRange
import Derived.WalkLawsBesides
import Derived.WalkSpells
import Derived.IntWalk
namespace Go.Proofs.Ytdfacpppmfoiiaa
open Go.RowKit
set_option linter.unusedVariables false
set_option linter.unusedSimpArgs false

def whenN (b : Bool) (e : Int) : Int := if b then e else 0
def lostB (s : St) (m : Int) : Bool := homeB m && !s.home
def blindB (s : St) (m : Int) : Bool := decide ((soundN s.iso : Int) < needsN m)
def bitN (n : Int) : Int := if n = 0 then 1 else if n = 1 then 2 else if n = 2 then 4 else if n = 3 then 8 else 0
def isoB (s : St) (n : Int) : Bool := bits .and .i64 s.iso (bitN n) == 0
def fewB (s : St) : Bool := decide ((soundN s.iso : Int) - 1 < needsN s.mode)
/-- What a command of this kind asks: the errors in their order. -/
def askL (s : St) (c : Cm) (k : Int) : List Int :=
  if k = 1 then [whenN (!wayB s.mode c.n) 20, whenN (!s.armed && (c.n != 0)) 22, whenN (s.armed && (c.n == 0)) 21, whenN (lostB s c.n) 23, whenN (blindB s c.n) 24]
  else if k = 2 then [whenN s.armed 21, whenN (decide ((soundN s.iso : Int) < 2)) 24]
  else if k = 3 then [whenN (!s.armed) 22, whenN ((s.mode != 1) && (s.mode != 5)) 20]
  else if k = 4 then [homeE c]
  else if k = 5 then [whenN ((bitN c.n == 0)) 1, whenN (isoB s c.n && fewB s) 24]
  else if k = 6 then [whenN ((bitN c.n == 0)) 1] else []
/-- The first of them that is one. -/
def firstE : List Int → Int | [] => 0 | x :: r => if x ≠ 0 then x else firstE r
def placeA (c : Cm) : Int := if fixE c.lat 90 ≠ 0 then 0 else fixN c.lat 90
def placeO (c : Cm) : Int := if fixE c.lat 90 ≠ 0 then 0 else fixN c.lon 180
theorem bit_sensor (n : Int) : (bitN n = 0) = (sensor n = false) := by
  unfold bitN sensor
  split
  · rename_i h; subst h; simp
  split
  · rename_i h; subst h; simp
  split
  · rename_i h; subst h; simp
  split
  · rename_i h; subst h; simp
  · simp; omega
theorem iso_bits : ∀ v : Fin 16, ∀ k : Fin 4, (bits .and .i64 (v.val : Int) (bitN (k.val : Int)) == 0) = !isIso (v.val : Int) k.val ∧ bits .or .i64 (v.val : Int) (bitN (k.val : Int)) = orI (v.val : Int) k.val ∧ bits .andNot .i64 (v.val : Int) (bitN (k.val : Int)) = clI (v.val : Int) k.val := by decide
theorem iso_bit {v n : Int} (h : 0 ≤ v ∧ v ≤ 15) (hn : sensor n = true) : (bits .and .i64 v (bitN n) == 0) = !isIso v n.toNat ∧ bits .or .i64 v (bitN n) = orI v n.toNat ∧ bits .andNot .i64 v (bitN n) = clI v n.toNat := by
  obtain ⟨a, rfl⟩ := iso_cases h
  have hk : n.toNat < 4 := by rcases sensor_cases hn with rfl | rfl | rfl | rfl <;> decide
  have e : ((n.toNat : Nat) : Int) = n := by rcases sensor_cases hn with rfl | rfl | rfl | rfl <;> rfl
  have k := iso_bits a ⟨n.toNat, hk⟩
  simp only [e] at k
  exact k
theorem first_one (b : Bool) (e : Int) (r : List Int) (he : e ≠ 0) : firstE (whenN b e :: r) = if b = true then e else firstE r := by
  show (if whenN b e ≠ 0 then whenN b e else firstE r) = _
  unfold whenN; cases b <;> simp [he]
theorem first_ask (s : St) (c : Cm) (hl : Legal s) (hk : 1 ≤ c.kind ∧ c.kind ≤ 6) : firstE (askL s c c.kind) = deltaE s c := by
  unfold askL deltaE
  by_cases k1 : c.kind = 1
  · rw [if_pos k1, if_pos k1, first_one _ _ _ (by decide), first_one _ _ _ (by decide), first_one _ _ _ (by decide), first_one _ _ _ (by decide), first_one _ _ _ (by decide)]
    unfold goE lostB blindB firstE
    cases wayB s.mode c.n <;> cases s.armed <;> cases s.home <;> cases homeB c.n <;> by_cases h0 : c.n = 0 <;> simp [h0]
  rw [if_neg k1, if_neg k1]
  by_cases k2 : c.kind = 2
  · rw [if_pos k2, if_pos k2, first_one _ _ _ (by decide), first_one _ _ _ (by decide)]
    unfold firstE
    cases s.armed <;> simp
  rw [if_neg k2, if_neg k2]
  by_cases k3 : c.kind = 3
  · rw [if_pos k3, if_pos k3, first_one _ _ _ (by decide), first_one _ _ _ (by decide)]
    unfold firstE
    cases s.armed <;> simp
  rw [if_neg k3, if_neg k3]
  by_cases k4 : c.kind = 4
  · rw [if_pos k4, if_pos k4]
    show (if homeE c ≠ 0 then homeE c else 0) = homeE c
    split
    · rfl
    · rename_i h; exact (Decidable.not_not.1 h).symm
  rw [if_neg k4, if_neg k4]
  by_cases k5 : c.kind = 5
  · rw [if_pos k5, if_pos k5, first_one _ _ _ (by decide), first_one _ _ _ (by decide)]
    unfold firstE isoE
    cases hn : sensor c.n with
    | false => rw [if_pos rfl, if_pos (by rw [beq_iff_eq, bit_sensor]; exact hn)]
    | true =>
      have hb : (bitN c.n == 0) = false := beq_eq_false_iff_ne.2 (by rw [ne_eq, bit_sensor, hn]; decide)
      rw [hb]
      show (if (isoB s c.n && fewB s) = true then (24 : Int) else 0) = (if isIso s.iso c.n.toNat = false ∧ (soundN s.iso : Int) - 1 < needsN s.mode then 24 else 0)
      unfold isoB fewB
      rw [(iso_bit hl.i hn).1]
      cases isIso s.iso c.n.toNat <;> simp
  rw [if_neg k5, if_neg k5]
  have k6 : c.kind = 6 := by omega
  rw [if_pos k6, if_pos k6, first_one _ _ _ (by decide)]
  unfold firstE
  cases hn : sensor c.n with
  | false => rw [if_pos rfl, if_pos (by rw [beq_iff_eq, bit_sensor]; exact hn)]
  | true =>
    have hb : (bitN c.n == 0) = false := beq_eq_false_iff_ne.2 (by rw [ne_eq, bit_sensor, hn]; decide)
    rw [hb]; rfl

set_option maxRecDepth 100000 in
set_option maxHeartbeats 8000000 in
theorem own16when (b : Bool) (e : Int) (W : World) : Gives Try.prog 35 #[.bool b, .int .i64 e] W (.int .i64 (whenN b e)) := by
  cases b
  · show Gives _ _ _ _ (.int .i64 0)
    go_enter Try.func35, Try.ntmps35
    go_wp2; go_ret; exact ⟨rfl, Below.refl _ _⟩
  · show Gives _ _ _ _ (.int .i64 e)
    go_enter Try.func35, Try.ntmps35
    go_wp2; go_ret; exact ⟨rfl, Below.refl _ _⟩

set_option maxRecDepth 100000 in
set_option maxHeartbeats 8000000 in
theorem own16lost (s : St) (m : Int) (W : World) (hm : -9223372036854775808 ≤ m ∧ m ≤ 9223372036854775807) : Gives Try.prog 28 #[.agg #[.int .i64 s.mode, .bool s.armed, .bool s.home, .int .i64 s.lat, .int .i64 s.lon, .int .i64 s.iso], .int .i64 m] W (.bool (lostB s m)) := by
  unfold lostB
  have TH := fun (V : World) => own15Home m V hm
  clear hm
  cases hb : homeB m
  · rw [hb] at TH
    replace TH := Lib.hid TH
    clear hb
    rw [Bool.false_and]
    have st := Bs.in1 W 23 [.int .i64 s.mode, .bool s.armed, .bool s.home, .int .i64 s.lat, .int .i64 s.lon, .int .i64 s.iso]
    go_enter Try.func28, Try.ntmps28
    have fc0 := (st.box 0 rfl).f6
    go_wp2_with fail; refine callB st (TH.out _) ?_; clear st fc0; intro V1 st
    have fc0 := (st.box 0 rfl).f6
    go_wp2; go_ret; exact ⟨rfl, st.lo⟩
  · rw [hb] at TH
    replace TH := Lib.hid TH
    clear hb
    rw [Bool.true_and]
    have st := Bs.in1 W 23 [.int .i64 s.mode, .bool s.armed, .bool s.home, .int .i64 s.lat, .int .i64 s.lon, .int .i64 s.iso]
    go_enter Try.func28, Try.ntmps28
    have fc0 := (st.box 0 rfl).f6
    go_wp2_with fail; refine callB st (TH.out _) ?_; clear st fc0; intro V1 st
    have fc0 := (st.box 0 rfl).f6
    go_wp2; go_ret; exact ⟨rfl, st.lo⟩

set_option maxRecDepth 100000 in
set_option maxHeartbeats 8000000 in
theorem own16blind (s : St) (m : Int) (W : World) (hs : s.ok) (hm : -9223372036854775808 ≤ m ∧ m ≤ 9223372036854775807) : Gives Try.prog 29 #[.agg #[.int .i64 s.mode, .bool s.armed, .bool s.home, .int .i64 s.lat, .int .i64 s.lon, .int .i64 s.iso], .int .i64 m] W (.bool (blindB s m)) := by
  unfold blindB
  have TS := Lib.hid (fun (V : World) => own14Sound s V hs)
  have TN := Lib.hid (fun (V : World) => own15Needs m V hm)
  clear hm hs
  have st := Bs.in1 W 23 [.int .i64 s.mode, .bool s.armed, .bool s.home, .int .i64 s.lat, .int .i64 s.lon, .int .i64 s.iso]
  go_enter Try.func29, Try.ntmps29
  have fc0 := (st.box 0 rfl).f6
  go_wp2_with fail; refine callB st (TS.out _) ?_; clear st fc0; intro V1 st
  have fc0 := (st.box 0 rfl).f6
  go_wp2_with fail; refine callB st (TN.out _) ?_; clear st fc0; intro V2 st
  have fc0 := (st.box 0 rfl).f6
  go_wp2; go_ret; exact ⟨rfl, st.lo⟩

set_option maxRecDepth 100000 in
set_option maxHeartbeats 8000000 in
theorem own16bitOf (n : Int) (W : World) : Gives Try.prog 33 #[.int .i64 n] W (.int .i64 (bitN n)) := by
  by_cases h0 : 0 ≤ n
  · by_cases h4 : n < 4
    · obtain rfl | rfl | rfl | rfl : n = 0 ∨ n = 1 ∨ n = 2 ∨ n = 3 := by omega
      · show Gives _ _ _ _ (.int .i64 1)
        clear h0 h4
        go_enter Try.func33, Try.ntmps33
        go_wp2; go_ret; exact ⟨rfl, Below.refl _ _⟩
      · show Gives _ _ _ _ (.int .i64 2)
        clear h0 h4
        go_enter Try.func33, Try.ntmps33
        go_wp2; go_ret; exact ⟨rfl, Below.refl _ _⟩
      · show Gives _ _ _ _ (.int .i64 4)
        clear h0 h4
        go_enter Try.func33, Try.ntmps33
        go_wp2; go_ret; exact ⟨rfl, Below.refl _ _⟩
      · show Gives _ _ _ _ (.int .i64 8)
        clear h0 h4
        go_enter Try.func33, Try.ntmps33
        go_wp2; go_ret; exact ⟨rfl, Below.refl _ _⟩
    · rw [show bitN n = 0 from by unfold bitN; rw [if_neg (by omega), if_neg (by omega), if_neg (by omega), if_neg (by omega)]]
      go_enter Try.func33, Try.ntmps33
      go_wp2; go_ret; exact ⟨rfl, Below.refl _ _⟩
  · rw [show bitN n = 0 from by unfold bitN; rw [if_neg (by omega), if_neg (by omega), if_neg (by omega), if_neg (by omega)]]
    go_enter Try.func33, Try.ntmps33
    go_wp2; go_ret; exact ⟨rfl, Below.refl _ _⟩

set_option maxRecDepth 100000 in
set_option maxHeartbeats 8000000 in
theorem own16placeOf (c : Cm) (W : World) (hc : c.ok) : Gives Try.prog 34 #[.agg #[.int .i64 c.kind, .int .i64 c.n, .float .f64 c.lat, .float .f64 c.lon]] W (.tuple #[.int .i64 (placeA c), .int .i64 (placeO c), .int .i64 (homeE c)]) := by
  unfold placeA placeO homeE
  have TA := Lib.hid (fun (V : World) => own13Fix c.lat 90 V hc.na (by decide))
  have TO := Lib.hid (fun (V : World) => own13Fix c.lon 180 V hc.no (by decide))
  clear hc
  by_cases h : fixE c.lat 90 = 0
  · rw [if_neg (fun k => k h), if_neg (fun k => k h), if_neg (fun k => k h)]
    rw [h] at TA
    clear h
    generalize fixN c.lat 90 = a at *
    generalize fixN c.lon 180 = b at *
    generalize fixE c.lon 180 = e at *
    have st := Bs.in1 W 26 [.int .i64 c.kind, .int .i64 c.n, .float .f64 c.lat, .float .f64 c.lon]
    go_enter Try.func34, Try.ntmps34
    have fc0 := (st.box 0 rfl).f4
    go_wp2_with fail; refine callB st (TA.out _) ?_; clear st fc0; intro V1 st
    have fc0 := (st.box 0 rfl).f4
    go_wp2_with fail; refine callB st (TO.out _) ?_; clear st fc0; intro V2 st
    have fc0 := (st.box 0 rfl).f4
    go_wp2; go_ret3; exact ⟨rfl, st.lo⟩
  · rw [if_pos h, if_pos h, if_pos h]
    have n1 : (fixE c.lat 90 != 0) = true := bne_iff_ne.2 h
    clear h TO
    generalize fixN c.lat 90 = a at *
    generalize fixE c.lat 90 = e at *
    have st := Bs.in1 W 26 [.int .i64 c.kind, .int .i64 c.n, .float .f64 c.lat, .float .f64 c.lon]
    go_enter Try.func34, Try.ntmps34
    have fc0 := (st.box 0 rfl).f4
    go_wp2_with fail; refine callB st (TA.out _) ?_; clear st fc0; intro V1 st
    have fc0 := (st.box 0 rfl).f4
    go_wp2; go_ret3; exact ⟨rfl, st.lo⟩

/-- What each operation of the map's literal hands on. -/
def askF (s : St) (c : Cm) (gs gc : Nat) : List Fk := [
  .mp 18,
  .val true 19 (.pointer (some ⟨gs, 0, none⟩)),
  .val true 20 (.int .i64 (s.mode)),
  .val true 21 (.pointer (some ⟨gc, 1, none⟩)),
  .val true 22 (.int .i64 (c.n)),
  .val true 23 (.bool (wayB s.mode c.n)),
  .val true 24 (.bool (!wayB s.mode c.n)),
  .val true 25 (.int .i64 (whenN (!wayB s.mode c.n) 20)),
  .val true 26 (.pointer (some ⟨gs, 1, none⟩)),
  .val true 27 (.bool (s.armed)),
  .val true 28 (.bool (!s.armed)),
  .val true 29 (.bool (!s.armed)),
  .val ((!s.armed) == true) 30 (.pointer (some ⟨gc, 1, none⟩)),
  .val ((!s.armed) == true) 31 (.int .i64 (c.n)),
  .val ((!s.armed) == true) 32 (.bool ((c.n != 0))),
  .val true 33 (.bool (!s.armed && (c.n != 0))),
  .val true 34 (.int .i64 (whenN (!s.armed && (c.n != 0)) 22)),
  .val true 35 (.pointer (some ⟨gs, 1, none⟩)),
  .val true 36 (.bool (s.armed)),
  .val true 37 (.bool (s.armed)),
  .val ((s.armed) == true) 38 (.pointer (some ⟨gc, 1, none⟩)),
  .val ((s.armed) == true) 39 (.int .i64 (c.n)),
  .val ((s.armed) == true) 40 (.bool ((c.n == 0))),
  .val true 41 (.bool (s.armed && (c.n == 0))),
  .val true 42 (.int .i64 (whenN (s.armed && (c.n == 0)) 21)),
  .val true 43 (.agg #[.int .i64 s.mode, .bool s.armed, .bool s.home, .int .i64 s.lat, .int .i64 s.lon, .int .i64 s.iso]),
  .val true 44 (.pointer (some ⟨gc, 1, none⟩)),
  .val true 45 (.int .i64 (c.n)),
  .val true 46 (.bool (lostB s c.n)),
  .val true 47 (.int .i64 (whenN (lostB s c.n) 23)),
  .val true 48 (.agg #[.int .i64 s.mode, .bool s.armed, .bool s.home, .int .i64 s.lat, .int .i64 s.lon, .int .i64 s.iso]),
  .val true 49 (.pointer (some ⟨gc, 1, none⟩)),
  .val true 50 (.int .i64 (c.n)),
  .val true 51 (.bool (blindB s c.n)),
  .val true 52 (.int .i64 (whenN (blindB s c.n) 24)),
  .sl 53 [whenN (!wayB s.mode c.n) 20, whenN (!s.armed && (c.n != 0)) 22, whenN (s.armed && (c.n == 0)) 21, whenN (lostB s c.n) 23, whenN (blindB s c.n) 24],
  .ins 18 53 1,
  .val true 54 (.pointer (some ⟨gs, 1, none⟩)),
  .val true 55 (.bool (s.armed)),
  .val true 56 (.int .i64 (whenN (s.armed) 21)),
  .val true 57 (.agg #[.int .i64 s.mode, .bool s.armed, .bool s.home, .int .i64 s.lat, .int .i64 s.lon, .int .i64 s.iso]),
  .val true 58 (.int .i64 ((soundN s.iso : Int))),
  .val true 59 (.bool (decide ((soundN s.iso : Int) < 2))),
  .val true 60 (.int .i64 (whenN (decide ((soundN s.iso : Int) < 2)) 24)),
  .sl 61 [whenN s.armed 21, whenN (decide ((soundN s.iso : Int) < 2)) 24],
  .ins 18 61 2,
  .val true 62 (.pointer (some ⟨gs, 1, none⟩)),
  .val true 63 (.bool (s.armed)),
  .val true 64 (.bool (!s.armed)),
  .val true 65 (.int .i64 (whenN (!s.armed) 22)),
  .val true 66 (.pointer (some ⟨gs, 0, none⟩)),
  .val true 67 (.int .i64 (s.mode)),
  .val true 68 (.bool ((s.mode != 1))),
  .val true 69 (.bool ((s.mode != 1))),
  .val (((s.mode != 1)) == true) 70 (.pointer (some ⟨gs, 0, none⟩)),
  .val (((s.mode != 1)) == true) 71 (.int .i64 (s.mode)),
  .val (((s.mode != 1)) == true) 72 (.bool ((s.mode != 5))),
  .val true 73 (.bool ((s.mode != 1) && (s.mode != 5))),
  .val true 74 (.int .i64 (whenN ((s.mode != 1) && (s.mode != 5)) 20)),
  .sl 75 [whenN (!s.armed) 22, whenN ((s.mode != 1) && (s.mode != 5)) 20],
  .ins 18 75 3,
  .val true 76 (.int .i64 (homeE c)),
  .sl 77 [homeE c],
  .ins 18 77 4,
  .val true 78 (.int .i64 (bitN c.n)),
  .val true 79 (.bool ((bitN c.n == 0))),
  .val true 80 (.int .i64 (whenN ((bitN c.n == 0)) 1)),
  .val true 81 (.pointer (some ⟨gs, 5, none⟩)),
  .val true 82 (.int .i64 (s.iso)),
  .val true 83 (.int .i64 (bitN c.n)),
  .val true 84 (.int .i64 (bits .and .i64 s.iso (bitN c.n))),
  .val true 85 (.bool (isoB s c.n)),
  .val true 86 (.bool (isoB s c.n)),
  .val ((isoB s c.n) == true) 87 (.agg #[.int .i64 s.mode, .bool s.armed, .bool s.home, .int .i64 s.lat, .int .i64 s.lon, .int .i64 s.iso]),
  .val ((isoB s c.n) == true) 88 (.int .i64 ((soundN s.iso : Int))),
  .val ((isoB s c.n) == true) 89 (.int .i64 ((soundN s.iso : Int) - 1)),
  .val ((isoB s c.n) == true) 90 (.pointer (some ⟨gs, 0, none⟩)),
  .val ((isoB s c.n) == true) 91 (.int .i64 (s.mode)),
  .val ((isoB s c.n) == true) 92 (.int .i64 (needsN s.mode)),
  .val ((isoB s c.n) == true) 93 (.bool (fewB s)),
  .val true 94 (.bool (isoB s c.n && fewB s)),
  .val true 95 (.int .i64 (whenN (isoB s c.n && fewB s) 24)),
  .sl 96 [whenN ((bitN c.n == 0)) 1, whenN (isoB s c.n && fewB s) 24],
  .ins 18 96 5,
  .val true 97 (.int .i64 (bitN c.n)),
  .val true 98 (.bool ((bitN c.n == 0))),
  .val true 99 (.int .i64 (whenN ((bitN c.n == 0)) 1)),
  .sl 100 [whenN ((bitN c.n == 0)) 1],
  .ins 18 100 6,
  .eq 101 18,
  .eq 4 101]

set_option maxRecDepth 100000 in
set_option maxHeartbeats 8000000 in
theorem own16asked (s : St) (c : Cm) (W : World) (hl : Legal s) (hc : c.ok) : Calls Try.prog 23 #[.agg #[.int .i64 s.mode, .bool s.armed, .bool s.home, .int .i64 s.lat, .int .i64 s.lon, .int .i64 s.iso], .agg #[.int .i64 c.kind, .int .i64 c.n, .float .f64 c.lat, .float .f64 c.lon]] W fun e W' => ∃ (b n : Nat) (D : DataW Value), e = .returned (.map (some b)) ∧ Below W.heap.size W W' ∧ W'.ownsMap Try.prog 3 RV b n D ∧ (∀ x, x ∉ [1, 2, 3, 4, 5, 6] → Maps.has D (.int .i64 x) = false) ∧ ∀ x, 1 ≤ x ∧ x ≤ 6 → ∃ g, (∀ z, D.atKey (.int .i64 x) z = .held (.slice (some ⟨g, 0, none⟩) (askL s c x).length (askL s c x).length)) ∧ IntsAt W' (some ⟨g, 0, none⟩) (askL s c x) := by
  have TW := Lib.hid (fun (V : World) => own15Way s.mode c.n V (legal_ok hl).nm hc.nn)
  have TL := Lib.hid (fun (V : World) => own16lost s c.n V hc.nn)
  have TB := Lib.hid (fun (V : World) => own16blind s c.n V (legal_ok hl) hc.nn)
  have TS := Lib.hid (fun (V : World) => own14Sound s V (legal_ok hl))
  have TN := Lib.hid (fun (V : World) => own15Needs s.mode V (legal_ok hl).nm)
  have TI := Lib.hid (fun (V : World) => own16bitOf c.n V)
  have TP := Lib.hid (fun (V : World) => own16placeOf c V hc)
  have TH := Lib.hid (fun (b : Bool) (e : Int) (V : World) => own16when b e V)
  have h5 := Lib.hid (sound_le s.iso)
  clear hl hc
  have st := Bs.in2 W 23 [.int .i64 s.mode, .bool s.armed, .bool s.home, .int .i64 s.lat, .int .i64 s.lon, .int .i64 s.iso] 26 [.int .i64 c.kind, .int .i64 c.n, .float .f64 c.lat, .float .f64 c.lon]
  go_enter Try.func23, Try.ntmps23
  have fc0 := (st.box 1 rfl).f6; have fc1 := (st.box 0 rfl).f4
  go_wp2_with fail; refine callB st (TI.out _) ?_; clear st fc0 fc1; intro V1 st
  have fc0 := (st.box 1 rfl).f6; have fc1 := (st.box 0 rfl).f4
  go_wp2_with fail; refine callB st (TP.out _) ?_; clear st fc0 fc1; intro V2 st
  have fc0 := (st.box 1 rfl).f6; have fc1 := (st.box 0 rfl).f4
  go_wp2_with fail
  clear fc0 fc1
  generalize W.heap.size + 1 = gc at *; generalize hgs : W.heap.size = gs at st ⊢
  refine region_free (K := 3) (askF s c gs gc) 18 102 [(2, .pointer (some ⟨gs, 0, none⟩)), (3, .pointer (some ⟨gc, 0, none⟩)), (5, .int .i64 (bitN c.n)), (8, .int .i64 (homeE c))] [1, 2, 3, 4, 5, 6] (by kernel_rfl) (by kernel_rfl) (by kernel_rfl) ⟨st.drew, rfl, rfl, Nat.le_refl _, ?_, ?_⟩ (fun hap => ?_) ?_
  · intro p hp; simp only [List.mem_cons, List.not_mem_nil, or_false] at hp; rcases hp with rfl | rfl | rfl | rfl <;> rfl
  · intro b hb; cases hb
  · refine Steps.cons (stepMp hap 49) ?_
    refine Steps.cons (stepVal hap true 19 (.pointer (some ⟨gs, 0, none⟩)) .none (fun ρ w hk hf st hb hd h => ?_)) ?_
    · have b2 : ρ (.tmp 2) = .pointer (some ⟨gs, 0, none⟩) := hb _ (.head _); go_simp
    refine Steps.cons (stepVal hap true 20 (.int .i64 (s.mode)) .none (fun ρ w hk hf st hb hd h => ?_)) ?_
    · have d1 := hd 1 rfl rfl; have fs := (st.box 1 rfl).f6; have fc := (st.box 0 rfl).f4; go_simp
    refine Steps.cons (stepVal hap true 21 (.pointer (some ⟨gc, 1, none⟩)) .none (fun ρ w hk hf st hb hd h => ?_)) ?_
    · have b3 : ρ (.tmp 3) = .pointer (some ⟨gc, 0, none⟩) := hb _ (.tail _ (.head _)); go_simp
    refine Steps.cons (stepVal hap true 22 (.int .i64 (c.n)) .none (fun ρ w hk hf st hb hd h => ?_)) ?_
    · have d3 := hd 3 rfl rfl; have fs := (st.box 1 rfl).f6; have fc := (st.box 0 rfl).f4; go_simp
    refine Steps.cons (stepCall hap true 23 (.bool (wayB s.mode c.n)) 36 #[.int .i64 s.mode, .int .i64 c.n] (fun _ => TW.out) .none (fun ρ w hk hf st hb hd h => ?_)) ?_
    · have d2 := hd 2 rfl rfl; have d4 := hd 4 rfl rfl; go_simp
    refine Steps.cons (stepVal hap true 24 (.bool (!wayB s.mode c.n)) .none (fun ρ w hk hf st hb hd h => ?_)) ?_
    · have d5 := hd 5 rfl rfl; go_simp
    refine Steps.cons (stepCall hap true 25 (.int .i64 (whenN (!wayB s.mode c.n) 20)) 35 #[.bool (!wayB s.mode c.n), .int .i64 20] (fun _ => TH.out _ _) .none (fun ρ w hk hf st hb hd h => ?_)) ?_
    · have d6 := hd 6 rfl rfl; go_simp
    refine Steps.cons (stepVal hap true 26 (.pointer (some ⟨gs, 1, none⟩)) .none (fun ρ w hk hf st hb hd h => ?_)) ?_
    · have b2 : ρ (.tmp 2) = .pointer (some ⟨gs, 0, none⟩) := hb _ (.head _); go_simp
    refine Steps.cons (stepVal hap true 27 (.bool (s.armed)) .none (fun ρ w hk hf st hb hd h => ?_)) ?_
    · have d8 := hd 8 rfl rfl; have fs := (st.box 1 rfl).f6; have fc := (st.box 0 rfl).f4; go_simp
    refine Steps.cons (stepVal hap true 28 (.bool (!s.armed)) .none (fun ρ w hk hf st hb hd h => ?_)) ?_
    · have d9 := hd 9 rfl rfl; go_simp
    refine Steps.cons (stepVal hap true 29 (.bool (!s.armed)) .none (fun ρ w hk hf st hb hd h => ?_)) ?_
    · have d10 := hd 10 rfl rfl; go_simp
    refine Steps.cons (stepVal hap ((!s.armed) == true) 30 (.pointer (some ⟨gc, 1, none⟩)) (.mk 11 true 29 (!s.armed)) (fun ρ w hk hf st hb hd h => ?_)) ?_
    · have b3 : ρ (.tmp 3) = .pointer (some ⟨gc, 0, none⟩) := hb _ (.tail _ (.head _)); go_simp
    refine Steps.cons (stepVal hap ((!s.armed) == true) 31 (.int .i64 (c.n)) (.mk 11 true 29 (!s.armed)) (fun ρ w hk hf st hb hd h => ?_)) ?_
    · have d12 := hd 12 rfl h; have fs := (st.box 1 rfl).f6; have fc := (st.box 0 rfl).f4; go_simp
    refine Steps.cons (stepVal hap ((!s.armed) == true) 32 (.bool ((c.n != 0))) (.mk 11 true 29 (!s.armed)) (fun ρ w hk hf st hb hd h => ?_)) ?_
    · have d13 := hd 13 rfl h; go_simp
    refine Steps.cons (stepVal hap true 33 (.bool (!s.armed && (c.n != 0))) .none (fun ρ w hk hf st hb hd h => ?_)) ?_
    · have d11 := hd 11 rfl rfl; have d14 : ((!s.armed) == true) = true → ρ (.tmp 32) = .bool ((c.n != 0)) := hd 14 rfl
      cases hG : (!s.armed) <;> rw [hG] at d11 d14
      · clear d14; go_simp
      · replace d14 := d14 rfl; go_simp
    refine Steps.cons (stepCall hap true 34 (.int .i64 (whenN (!s.armed && (c.n != 0)) 22)) 35 #[.bool (!s.armed && (c.n != 0)), .int .i64 22] (fun _ => TH.out _ _) .none (fun ρ w hk hf st hb hd h => ?_)) ?_
    · have d15 := hd 15 rfl rfl; go_simp
    refine Steps.cons (stepVal hap true 35 (.pointer (some ⟨gs, 1, none⟩)) .none (fun ρ w hk hf st hb hd h => ?_)) ?_
    · have b2 : ρ (.tmp 2) = .pointer (some ⟨gs, 0, none⟩) := hb _ (.head _); go_simp
    refine Steps.cons (stepVal hap true 36 (.bool (s.armed)) .none (fun ρ w hk hf st hb hd h => ?_)) ?_
    · have d17 := hd 17 rfl rfl; have fs := (st.box 1 rfl).f6; have fc := (st.box 0 rfl).f4; go_simp
    refine Steps.cons (stepVal hap true 37 (.bool (s.armed)) .none (fun ρ w hk hf st hb hd h => ?_)) ?_
    · have d18 := hd 18 rfl rfl; go_simp
    refine Steps.cons (stepVal hap ((s.armed) == true) 38 (.pointer (some ⟨gc, 1, none⟩)) (.mk 19 true 37 (s.armed)) (fun ρ w hk hf st hb hd h => ?_)) ?_
    · have b3 : ρ (.tmp 3) = .pointer (some ⟨gc, 0, none⟩) := hb _ (.tail _ (.head _)); go_simp
    refine Steps.cons (stepVal hap ((s.armed) == true) 39 (.int .i64 (c.n)) (.mk 19 true 37 (s.armed)) (fun ρ w hk hf st hb hd h => ?_)) ?_
    · have d20 := hd 20 rfl h; have fs := (st.box 1 rfl).f6; have fc := (st.box 0 rfl).f4; go_simp
    refine Steps.cons (stepVal hap ((s.armed) == true) 40 (.bool ((c.n == 0))) (.mk 19 true 37 (s.armed)) (fun ρ w hk hf st hb hd h => ?_)) ?_
    · have d21 := hd 21 rfl h; go_simp
    refine Steps.cons (stepVal hap true 41 (.bool (s.armed && (c.n == 0))) .none (fun ρ w hk hf st hb hd h => ?_)) ?_
    · have d19 := hd 19 rfl rfl; have d22 : ((s.armed) == true) = true → ρ (.tmp 40) = .bool ((c.n == 0)) := hd 22 rfl
      cases hG : (s.armed) <;> rw [hG] at d19 d22
      · clear d22; go_simp
      · replace d22 := d22 rfl; go_simp
    refine Steps.cons (stepCall hap true 42 (.int .i64 (whenN (s.armed && (c.n == 0)) 21)) 35 #[.bool (s.armed && (c.n == 0)), .int .i64 21] (fun _ => TH.out _ _) .none (fun ρ w hk hf st hb hd h => ?_)) ?_
    · have d23 := hd 23 rfl rfl; go_simp
    refine Steps.cons (stepVal hap true 43 (.agg #[.int .i64 s.mode, .bool s.armed, .bool s.home, .int .i64 s.lat, .int .i64 s.lon, .int .i64 s.iso]) .none (fun ρ w hk hf st hb hd h => ?_)) ?_
    · have b2 : ρ (.tmp 2) = .pointer (some ⟨gs, 0, none⟩) := hb _ (.head _); have fs := (st.box 1 rfl).f6; have fc := (st.box 0 rfl).f4; go_simp
    refine Steps.cons (stepVal hap true 44 (.pointer (some ⟨gc, 1, none⟩)) .none (fun ρ w hk hf st hb hd h => ?_)) ?_
    · have b3 : ρ (.tmp 3) = .pointer (some ⟨gc, 0, none⟩) := hb _ (.tail _ (.head _)); go_simp
    refine Steps.cons (stepVal hap true 45 (.int .i64 (c.n)) .none (fun ρ w hk hf st hb hd h => ?_)) ?_
    · have d26 := hd 26 rfl rfl; have fs := (st.box 1 rfl).f6; have fc := (st.box 0 rfl).f4; go_simp
    refine Steps.cons (stepCall hap true 46 (.bool (lostB s c.n)) 28 #[.agg #[.int .i64 s.mode, .bool s.armed, .bool s.home, .int .i64 s.lat, .int .i64 s.lon, .int .i64 s.iso], .int .i64 c.n] (fun _ => TL.out) .none (fun ρ w hk hf st hb hd h => ?_)) ?_
    · have d25 := hd 25 rfl rfl; have d27 := hd 27 rfl rfl; go_simp
    refine Steps.cons (stepCall hap true 47 (.int .i64 (whenN (lostB s c.n) 23)) 35 #[.bool (lostB s c.n), .int .i64 23] (fun _ => TH.out _ _) .none (fun ρ w hk hf st hb hd h => ?_)) ?_
    · have d28 := hd 28 rfl rfl; go_simp
    refine Steps.cons (stepVal hap true 48 (.agg #[.int .i64 s.mode, .bool s.armed, .bool s.home, .int .i64 s.lat, .int .i64 s.lon, .int .i64 s.iso]) .none (fun ρ w hk hf st hb hd h => ?_)) ?_
    · have b2 : ρ (.tmp 2) = .pointer (some ⟨gs, 0, none⟩) := hb _ (.head _); have fs := (st.box 1 rfl).f6; have fc := (st.box 0 rfl).f4; go_simp
    refine Steps.cons (stepVal hap true 49 (.pointer (some ⟨gc, 1, none⟩)) .none (fun ρ w hk hf st hb hd h => ?_)) ?_
    · have b3 : ρ (.tmp 3) = .pointer (some ⟨gc, 0, none⟩) := hb _ (.tail _ (.head _)); go_simp
    refine Steps.cons (stepVal hap true 50 (.int .i64 (c.n)) .none (fun ρ w hk hf st hb hd h => ?_)) ?_
    · have d31 := hd 31 rfl rfl; have fs := (st.box 1 rfl).f6; have fc := (st.box 0 rfl).f4; go_simp
    refine Steps.cons (stepCall hap true 51 (.bool (blindB s c.n)) 29 #[.agg #[.int .i64 s.mode, .bool s.armed, .bool s.home, .int .i64 s.lat, .int .i64 s.lon, .int .i64 s.iso], .int .i64 c.n] (fun _ => TB.out) .none (fun ρ w hk hf st hb hd h => ?_)) ?_
    · have d30 := hd 30 rfl rfl; have d32 := hd 32 rfl rfl; go_simp
    refine Steps.cons (stepCall hap true 52 (.int .i64 (whenN (blindB s c.n) 24)) 35 #[.bool (blindB s c.n), .int .i64 24] (fun _ => TH.out _ _) .none (fun ρ w hk hf st hb hd h => ?_)) ?_
    · have d33 := hd 33 rfl rfl; go_simp
    refine Steps.cons (stepSl hap 53 [whenN (!wayB s.mode c.n) 20, whenN (!s.armed && (c.n != 0)) 22, whenN (s.armed && (c.n == 0)) 21, whenN (lostB s c.n) 23, whenN (blindB s c.n) 24] 31 (fun ρ w hk hb hd => ?_)) ?_
    · have d7 := hd 7 rfl rfl; have d16 := hd 16 rfl rfl; have d24 := hd 24 rfl rfl; have d29 := hd 29 rfl rfl; have d34 := hd 34 rfl rfl; go_simp
    refine Steps.cons (stepIns hap 49 47 53 1 0 rfl rfl (by decide) (by decide) (by decide) (by kernel_rfl)) ?_
    refine Steps.cons (stepVal hap true 54 (.pointer (some ⟨gs, 1, none⟩)) .none (fun ρ w hk hf st hb hd h => ?_)) ?_
    · have b2 : ρ (.tmp 2) = .pointer (some ⟨gs, 0, none⟩) := hb _ (.head _); go_simp
    refine Steps.cons (stepVal hap true 55 (.bool (s.armed)) .none (fun ρ w hk hf st hb hd h => ?_)) ?_
    · have d37 := hd 37 rfl rfl; have fs := (st.box 1 rfl).f6; have fc := (st.box 0 rfl).f4; go_simp
    refine Steps.cons (stepCall hap true 56 (.int .i64 (whenN (s.armed) 21)) 35 #[.bool (s.armed), .int .i64 21] (fun _ => TH.out _ _) .none (fun ρ w hk hf st hb hd h => ?_)) ?_
    · have d38 := hd 38 rfl rfl; go_simp
    refine Steps.cons (stepVal hap true 57 (.agg #[.int .i64 s.mode, .bool s.armed, .bool s.home, .int .i64 s.lat, .int .i64 s.lon, .int .i64 s.iso]) .none (fun ρ w hk hf st hb hd h => ?_)) ?_
    · have b2 : ρ (.tmp 2) = .pointer (some ⟨gs, 0, none⟩) := hb _ (.head _); have fs := (st.box 1 rfl).f6; have fc := (st.box 0 rfl).f4; go_simp
    refine Steps.cons (stepCall hap true 58 (.int .i64 ((soundN s.iso : Int))) 37 #[.agg #[.int .i64 s.mode, .bool s.armed, .bool s.home, .int .i64 s.lat, .int .i64 s.lon, .int .i64 s.iso]] (fun _ => TS.out) .none (fun ρ w hk hf st hb hd h => ?_)) ?_
    · have d40 := hd 40 rfl rfl; go_simp
    refine Steps.cons (stepVal hap true 59 (.bool (decide ((soundN s.iso : Int) < 2))) .none (fun ρ w hk hf st hb hd h => ?_)) ?_
    · have d41 := hd 41 rfl rfl; go_simp
    refine Steps.cons (stepCall hap true 60 (.int .i64 (whenN (decide ((soundN s.iso : Int) < 2)) 24)) 35 #[.bool (decide ((soundN s.iso : Int) < 2)), .int .i64 24] (fun _ => TH.out _ _) .none (fun ρ w hk hf st hb hd h => ?_)) ?_
    · have d42 := hd 42 rfl rfl; go_simp
    refine Steps.cons (stepSl hap 61 [whenN s.armed 21, whenN (decide ((soundN s.iso : Int) < 2)) 24] 31 (fun ρ w hk hb hd => ?_)) ?_
    · have d39 := hd 39 rfl rfl; have d43 := hd 43 rfl rfl; go_simp
    refine Steps.cons (stepIns hap 49 47 61 2 0 rfl rfl (by decide) (by decide) (by decide) (by kernel_rfl)) ?_
    refine Steps.cons (stepVal hap true 62 (.pointer (some ⟨gs, 1, none⟩)) .none (fun ρ w hk hf st hb hd h => ?_)) ?_
    · have b2 : ρ (.tmp 2) = .pointer (some ⟨gs, 0, none⟩) := hb _ (.head _); go_simp
    refine Steps.cons (stepVal hap true 63 (.bool (s.armed)) .none (fun ρ w hk hf st hb hd h => ?_)) ?_
    · have d46 := hd 46 rfl rfl; have fs := (st.box 1 rfl).f6; have fc := (st.box 0 rfl).f4; go_simp
    refine Steps.cons (stepVal hap true 64 (.bool (!s.armed)) .none (fun ρ w hk hf st hb hd h => ?_)) ?_
    · have d47 := hd 47 rfl rfl; go_simp
    refine Steps.cons (stepCall hap true 65 (.int .i64 (whenN (!s.armed) 22)) 35 #[.bool (!s.armed), .int .i64 22] (fun _ => TH.out _ _) .none (fun ρ w hk hf st hb hd h => ?_)) ?_
    · have d48 := hd 48 rfl rfl; go_simp
    refine Steps.cons (stepVal hap true 66 (.pointer (some ⟨gs, 0, none⟩)) .none (fun ρ w hk hf st hb hd h => ?_)) ?_
    · have b2 : ρ (.tmp 2) = .pointer (some ⟨gs, 0, none⟩) := hb _ (.head _); go_simp
    refine Steps.cons (stepVal hap true 67 (.int .i64 (s.mode)) .none (fun ρ w hk hf st hb hd h => ?_)) ?_
    · have d50 := hd 50 rfl rfl; have fs := (st.box 1 rfl).f6; have fc := (st.box 0 rfl).f4; go_simp
    refine Steps.cons (stepVal hap true 68 (.bool ((s.mode != 1))) .none (fun ρ w hk hf st hb hd h => ?_)) ?_
    · have d51 := hd 51 rfl rfl; go_simp
    refine Steps.cons (stepVal hap true 69 (.bool ((s.mode != 1))) .none (fun ρ w hk hf st hb hd h => ?_)) ?_
    · have d52 := hd 52 rfl rfl; go_simp
    refine Steps.cons (stepVal hap (((s.mode != 1)) == true) 70 (.pointer (some ⟨gs, 0, none⟩)) (.mk 53 true 69 ((s.mode != 1))) (fun ρ w hk hf st hb hd h => ?_)) ?_
    · have b2 : ρ (.tmp 2) = .pointer (some ⟨gs, 0, none⟩) := hb _ (.head _); go_simp
    refine Steps.cons (stepVal hap (((s.mode != 1)) == true) 71 (.int .i64 (s.mode)) (.mk 53 true 69 ((s.mode != 1))) (fun ρ w hk hf st hb hd h => ?_)) ?_
    · have d54 := hd 54 rfl h; have fs := (st.box 1 rfl).f6; have fc := (st.box 0 rfl).f4; go_simp
    refine Steps.cons (stepVal hap (((s.mode != 1)) == true) 72 (.bool ((s.mode != 5))) (.mk 53 true 69 ((s.mode != 1))) (fun ρ w hk hf st hb hd h => ?_)) ?_
    · have d55 := hd 55 rfl h; go_simp
    refine Steps.cons (stepVal hap true 73 (.bool ((s.mode != 1) && (s.mode != 5))) .none (fun ρ w hk hf st hb hd h => ?_)) ?_
    · have d53 := hd 53 rfl rfl; have d56 : (((s.mode != 1)) == true) = true → ρ (.tmp 72) = .bool ((s.mode != 5)) := hd 56 rfl
      cases hG : ((s.mode != 1)) <;> rw [hG] at d53 d56
      · clear d56; go_simp
      · replace d56 := d56 rfl; go_simp
    refine Steps.cons (stepCall hap true 74 (.int .i64 (whenN ((s.mode != 1) && (s.mode != 5)) 20)) 35 #[.bool ((s.mode != 1) && (s.mode != 5)), .int .i64 20] (fun _ => TH.out _ _) .none (fun ρ w hk hf st hb hd h => ?_)) ?_
    · have d57 := hd 57 rfl rfl; go_simp
    refine Steps.cons (stepSl hap 75 [whenN (!s.armed) 22, whenN ((s.mode != 1) && (s.mode != 5)) 20] 31 (fun ρ w hk hb hd => ?_)) ?_
    · have d49 := hd 49 rfl rfl; have d58 := hd 58 rfl rfl; go_simp
    refine Steps.cons (stepIns hap 49 47 75 3 0 rfl rfl (by decide) (by decide) (by decide) (by kernel_rfl)) ?_
    refine Steps.cons (stepVal hap true 76 (.int .i64 (homeE c)) .none (fun ρ w hk hf st hb hd h => ?_)) ?_
    · have b8 : ρ (.tmp 8) = .int .i64 (homeE c) := hb _ (.tail _ (.tail _ (.tail _ (.head _)))); go_simp
    refine Steps.cons (stepSl hap 77 [homeE c] 31 (fun ρ w hk hb hd => ?_)) ?_
    · have d61 := hd 61 rfl rfl; go_simp
    refine Steps.cons (stepIns hap 49 47 77 4 0 rfl rfl (by decide) (by decide) (by decide) (by kernel_rfl)) ?_
    refine Steps.cons (stepVal hap true 78 (.int .i64 (bitN c.n)) .none (fun ρ w hk hf st hb hd h => ?_)) ?_
    · have b5 : ρ (.tmp 5) = .int .i64 (bitN c.n) := hb _ (.tail _ (.tail _ (.head _))); go_simp
    refine Steps.cons (stepVal hap true 79 (.bool ((bitN c.n == 0))) .none (fun ρ w hk hf st hb hd h => ?_)) ?_
    · have d64 := hd 64 rfl rfl; go_simp
    refine Steps.cons (stepCall hap true 80 (.int .i64 (whenN ((bitN c.n == 0)) 1)) 35 #[.bool ((bitN c.n == 0)), .int .i64 1] (fun _ => TH.out _ _) .none (fun ρ w hk hf st hb hd h => ?_)) ?_
    · have d65 := hd 65 rfl rfl; go_simp
    refine Steps.cons (stepVal hap true 81 (.pointer (some ⟨gs, 5, none⟩)) .none (fun ρ w hk hf st hb hd h => ?_)) ?_
    · have b2 : ρ (.tmp 2) = .pointer (some ⟨gs, 0, none⟩) := hb _ (.head _); go_simp
    refine Steps.cons (stepVal hap true 82 (.int .i64 (s.iso)) .none (fun ρ w hk hf st hb hd h => ?_)) ?_
    · have d67 := hd 67 rfl rfl; have fs := (st.box 1 rfl).f6; have fc := (st.box 0 rfl).f4; go_simp
    refine Steps.cons (stepVal hap true 83 (.int .i64 (bitN c.n)) .none (fun ρ w hk hf st hb hd h => ?_)) ?_
    · have b5 : ρ (.tmp 5) = .int .i64 (bitN c.n) := hb _ (.tail _ (.tail _ (.head _))); go_simp
    refine Steps.cons (stepVal hap true 84 (.int .i64 (bits .and .i64 s.iso (bitN c.n))) .none (fun ρ w hk hf st hb hd h => ?_)) ?_
    · have d68 := hd 68 rfl rfl; have d69 := hd 69 rfl rfl; go_simp
    refine Steps.cons (stepVal hap true 85 (.bool (isoB s c.n)) .none (fun ρ w hk hf st hb hd h => ?_)) ?_
    · have d70 := hd 70 rfl rfl; go_simp; rfl
    refine Steps.cons (stepVal hap true 86 (.bool (isoB s c.n)) .none (fun ρ w hk hf st hb hd h => ?_)) ?_
    · have d71 := hd 71 rfl rfl; go_simp
    refine Steps.cons (stepVal hap ((isoB s c.n) == true) 87 (.agg #[.int .i64 s.mode, .bool s.armed, .bool s.home, .int .i64 s.lat, .int .i64 s.lon, .int .i64 s.iso]) (.mk 72 true 86 (isoB s c.n)) (fun ρ w hk hf st hb hd h => ?_)) ?_
    · have b2 : ρ (.tmp 2) = .pointer (some ⟨gs, 0, none⟩) := hb _ (.head _); have fs := (st.box 1 rfl).f6; have fc := (st.box 0 rfl).f4; go_simp
    refine Steps.cons (stepCall hap ((isoB s c.n) == true) 88 (.int .i64 ((soundN s.iso : Int))) 37 #[.agg #[.int .i64 s.mode, .bool s.armed, .bool s.home, .int .i64 s.lat, .int .i64 s.lon, .int .i64 s.iso]] (fun _ => TS.out) (.mk 72 true 86 (isoB s c.n)) (fun ρ w hk hf st hb hd h => ?_)) ?_
    · have d73 := hd 73 rfl h; go_simp
    refine Steps.cons (stepVal hap ((isoB s c.n) == true) 89 (.int .i64 ((soundN s.iso : Int) - 1)) (.mk 72 true 86 (isoB s c.n)) (fun ρ w hk hf st hb hd h => ?_)) ?_
    · have d74 := hd 74 rfl h; go_simp; have k5 := h5.out; unfold IntKind.wrap; simp [IntKind.signed, IntKind.bits]; split <;> omega
    refine Steps.cons (stepVal hap ((isoB s c.n) == true) 90 (.pointer (some ⟨gs, 0, none⟩)) (.mk 72 true 86 (isoB s c.n)) (fun ρ w hk hf st hb hd h => ?_)) ?_
    · have b2 : ρ (.tmp 2) = .pointer (some ⟨gs, 0, none⟩) := hb _ (.head _); go_simp
    refine Steps.cons (stepVal hap ((isoB s c.n) == true) 91 (.int .i64 (s.mode)) (.mk 72 true 86 (isoB s c.n)) (fun ρ w hk hf st hb hd h => ?_)) ?_
    · have d76 := hd 76 rfl h; have fs := (st.box 1 rfl).f6; have fc := (st.box 0 rfl).f4; go_simp
    refine Steps.cons (stepCall hap ((isoB s c.n) == true) 92 (.int .i64 (needsN s.mode)) 38 #[.int .i64 s.mode] (fun _ => TN.out) (.mk 72 true 86 (isoB s c.n)) (fun ρ w hk hf st hb hd h => ?_)) ?_
    · have d77 := hd 77 rfl h; go_simp
    refine Steps.cons (stepVal hap ((isoB s c.n) == true) 93 (.bool (fewB s)) (.mk 72 true 86 (isoB s c.n)) (fun ρ w hk hf st hb hd h => ?_)) ?_
    · have d75 := hd 75 rfl h; have d78 := hd 78 rfl h; go_simp; rfl
    refine Steps.cons (stepVal hap true 94 (.bool (isoB s c.n && fewB s)) .none (fun ρ w hk hf st hb hd h => ?_)) ?_
    · have d72 := hd 72 rfl rfl; have d79 : ((isoB s c.n) == true) = true → ρ (.tmp 93) = .bool (fewB s) := hd 79 rfl
      cases hG : (isoB s c.n) <;> rw [hG] at d72 d79
      · clear d79; go_simp
      · replace d79 := d79 rfl; go_simp
    refine Steps.cons (stepCall hap true 95 (.int .i64 (whenN (isoB s c.n && fewB s) 24)) 35 #[.bool (isoB s c.n && fewB s), .int .i64 24] (fun _ => TH.out _ _) .none (fun ρ w hk hf st hb hd h => ?_)) ?_
    · have d80 := hd 80 rfl rfl; go_simp
    refine Steps.cons (stepSl hap 96 [whenN ((bitN c.n == 0)) 1, whenN (isoB s c.n && fewB s) 24] 31 (fun ρ w hk hb hd => ?_)) ?_
    · have d66 := hd 66 rfl rfl; have d81 := hd 81 rfl rfl; go_simp
    refine Steps.cons (stepIns hap 49 47 96 5 0 rfl rfl (by decide) (by decide) (by decide) (by kernel_rfl)) ?_
    refine Steps.cons (stepVal hap true 97 (.int .i64 (bitN c.n)) .none (fun ρ w hk hf st hb hd h => ?_)) ?_
    · have b5 : ρ (.tmp 5) = .int .i64 (bitN c.n) := hb _ (.tail _ (.tail _ (.head _))); go_simp
    refine Steps.cons (stepVal hap true 98 (.bool ((bitN c.n == 0))) .none (fun ρ w hk hf st hb hd h => ?_)) ?_
    · have d84 := hd 84 rfl rfl; go_simp
    refine Steps.cons (stepCall hap true 99 (.int .i64 (whenN ((bitN c.n == 0)) 1)) 35 #[.bool ((bitN c.n == 0)), .int .i64 1] (fun _ => TH.out _ _) .none (fun ρ w hk hf st hb hd h => ?_)) ?_
    · have d85 := hd 85 rfl rfl; go_simp
    refine Steps.cons (stepSl hap 100 [whenN ((bitN c.n == 0)) 1] 31 (fun ρ w hk hb hd => ?_)) ?_
    · have d86 := hd 86 rfl rfl; go_simp
    refine Steps.cons (stepIns hap 49 47 100 6 0 rfl rfl (by decide) (by decide) (by decide) (by kernel_rfl)) ?_
    refine Steps.cons (stepEq hap 101 18) ?_
    refine Steps.cons (stepEq hap 4 101) ?_
    trivial
  · intro n a w hJ hF
    clear st TW TL TB TS TN TI TP TH h5
    obtain ⟨b, hb⟩ : ∃ b, a.eval (.tmp 18) = .map (some b) := hF 0 (by decide)
    obtain ⟨kk, D, _, _, hD, hno⟩ := hJ.mp b hb
    have e4 : a.eval (.tmp 4) = a.eval (.tmp 101) := hF 90 (by decide)
    have e5 : a.eval (.tmp 101) = a.eval (.tmp 18) := hF 89 (by decide)
    have e6 : a.eval (.tmp 4) = .map (some b) := e4.trans (e5.trans hb)
    have H : ∀ x, 1 ≤ x ∧ x ≤ 6 → ∃ g, (∀ z, D.atKey (.int .i64 x) z = .held (.slice (some ⟨g, 0, none⟩) (askL s c x).length (askL s c x).length)) ∧ IntsAt w (some ⟨g, 0, none⟩) (askL s c x) := by
      intro x hx
      obtain rfl | rfl | rfl | rfl | rfl | rfl : x = 1 ∨ x = 2 ∨ x = 3 ∨ x = 4 ∨ x = 5 ∨ x = 6 := by omega
      · obtain ⟨g, h1, h2⟩ : ∃ g, a.eval (.tmp 53) = .slice (some ⟨g, 0, none⟩) 5 5 ∧ IntsAt w (some ⟨g, 0, none⟩) (askL s c 1) := hF 35 (by decide)
        obtain ⟨b2, n2, D2, h3, h4, h5⟩ : ∃ b n D, a.eval (.tmp 18) = .map (some b) ∧ w.ownsMap Try.prog 3 RV b n D ∧ ∀ z, D.atKey (.int .i64 1) z = .held (a.eval (.tmp 53)) := hF 36 (by decide)
        rw [hb] at h3
        cases h3
        rw [ownsMap_one hD h4]
        exact ⟨g, fun z => by rw [h5 z, h1]; rfl, h2⟩
      · obtain ⟨g, h1, h2⟩ : ∃ g, a.eval (.tmp 61) = .slice (some ⟨g, 0, none⟩) 2 2 ∧ IntsAt w (some ⟨g, 0, none⟩) (askL s c 2) := hF 44 (by decide)
        obtain ⟨b2, n2, D2, h3, h4, h5⟩ : ∃ b n D, a.eval (.tmp 18) = .map (some b) ∧ w.ownsMap Try.prog 3 RV b n D ∧ ∀ z, D.atKey (.int .i64 2) z = .held (a.eval (.tmp 61)) := hF 45 (by decide)
        rw [hb] at h3
        cases h3
        rw [ownsMap_one hD h4]
        exact ⟨g, fun z => by rw [h5 z, h1]; rfl, h2⟩
      · obtain ⟨g, h1, h2⟩ : ∃ g, a.eval (.tmp 75) = .slice (some ⟨g, 0, none⟩) 2 2 ∧ IntsAt w (some ⟨g, 0, none⟩) (askL s c 3) := hF 59 (by decide)
        obtain ⟨b2, n2, D2, h3, h4, h5⟩ : ∃ b n D, a.eval (.tmp 18) = .map (some b) ∧ w.ownsMap Try.prog 3 RV b n D ∧ ∀ z, D.atKey (.int .i64 3) z = .held (a.eval (.tmp 75)) := hF 60 (by decide)
        rw [hb] at h3
        cases h3
        rw [ownsMap_one hD h4]
        exact ⟨g, fun z => by rw [h5 z, h1]; rfl, h2⟩
      · obtain ⟨g, h1, h2⟩ : ∃ g, a.eval (.tmp 77) = .slice (some ⟨g, 0, none⟩) 1 1 ∧ IntsAt w (some ⟨g, 0, none⟩) (askL s c 4) := hF 62 (by decide)
        obtain ⟨b2, n2, D2, h3, h4, h5⟩ : ∃ b n D, a.eval (.tmp 18) = .map (some b) ∧ w.ownsMap Try.prog 3 RV b n D ∧ ∀ z, D.atKey (.int .i64 4) z = .held (a.eval (.tmp 77)) := hF 63 (by decide)
        rw [hb] at h3
        cases h3
        rw [ownsMap_one hD h4]
        exact ⟨g, fun z => by rw [h5 z, h1]; rfl, h2⟩
      · obtain ⟨g, h1, h2⟩ : ∃ g, a.eval (.tmp 96) = .slice (some ⟨g, 0, none⟩) 2 2 ∧ IntsAt w (some ⟨g, 0, none⟩) (askL s c 5) := hF 82 (by decide)
        obtain ⟨b2, n2, D2, h3, h4, h5⟩ : ∃ b n D, a.eval (.tmp 18) = .map (some b) ∧ w.ownsMap Try.prog 3 RV b n D ∧ ∀ z, D.atKey (.int .i64 5) z = .held (a.eval (.tmp 96)) := hF 83 (by decide)
        rw [hb] at h3
        cases h3
        rw [ownsMap_one hD h4]
        exact ⟨g, fun z => by rw [h5 z, h1]; rfl, h2⟩
      · obtain ⟨g, h1, h2⟩ : ∃ g, a.eval (.tmp 100) = .slice (some ⟨g, 0, none⟩) 1 1 ∧ IntsAt w (some ⟨g, 0, none⟩) (askL s c 6) := hF 87 (by decide)
        obtain ⟨b2, n2, D2, h3, h4, h5⟩ : ∃ b n D, a.eval (.tmp 18) = .map (some b) ∧ w.ownsMap Try.prog 3 RV b n D ∧ ∀ z, D.atKey (.int .i64 6) z = .held (a.eval (.tmp 100)) := hF 88 (by decide)
        rw [hb] at h3
        cases h3
        rw [ownsMap_one hD h4]
        exact ⟨g, fun z => by rw [h5 z, h1]; rfl, h2⟩
    have hR : a.tmps.getD 4 undef = .map (some b) := e6
    have hs : a.tmps.size = 102 := hJ.sz
    have hdf := hJ.df
    have hfin := fun (R : Ending → World → Prop) (h : R (.returned (.map (some b))) w) => h
    have hlo := hJ.st.lo
    clear hF e4 e5 e6
    go_wp2
    refine bodyPost_ret (v := .map (some b)) ?_ hdf ⟨b, kk, D, rfl, hlo, hD, hno, H⟩
    simp only [results, Try.results23, Array.getD_eq_getD_getElem?] at hR ⊢
    simp [hR]

end Go.Proofs.Ytdfacpppmfoiiaa

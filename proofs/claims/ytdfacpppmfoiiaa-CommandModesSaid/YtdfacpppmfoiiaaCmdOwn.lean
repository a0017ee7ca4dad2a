/- The program's Delta and Fits: contracts only. -/
import Derived.Test.YtdfacpppmfoiiaaCmdOwnA
import Derived.WalkKit
import Derived.ProofKit
import Derived.OpenShut
import Derived.ChangeMaps5
import Derived.Carry
import Derived.OwnWalk
import Derived.Lib.Hide
import Derived.Deep.RegionHeld3
import Derived.BigQuiet
import Derived.Deep.QuietTactic
import Derived.Deep.CutRange
import Derived.WalkLawsBesides
import Derived.WalkSpells
import Derived.IntWalk
namespace Go.Proofs.Ytdfacpppmfoiiaa
open Go.RowKit
set_option linter.unusedVariables false
set_option linter.unusedSimpArgs false

theorem first_at {l : List Int} : ∀ {k : Nat} {x : Int}, (∀ j, j < k → l[j]? = some 0) → l[k]? = some x → x ≠ 0 → firstE l = x := by
  induction l with
  | nil => intro k x _ h; simp at h
  | cons y r ih =>
    intro k x hz hx h0
    show (if y ≠ 0 then y else firstE r) = x
    cases k with
    | zero =>
      have e : y = x := by simpa using hx
      subst e; rw [if_pos h0]
    | succ k =>
      have e : y = 0 := by simpa using hz 0 (by omega)
      rw [if_neg (fun h => h e)]
      exact ih (k := k) (fun j hj => by simpa using hz (j + 1) (by omega)) (by simpa using hx) h0
theorem first_none {l : List Int} : (∀ j, j < l.length → l[j]? = some 0) → firstE l = 0 := by
  induction l with
  | nil => intro _; rfl
  | cons y r ih =>
    intro hz
    show (if y ≠ 0 then y else firstE r) = 0
    have e : y = 0 := by simpa using hz 0 (by simp)
    rw [if_neg (fun h => h e)]
    exact ih (fun j hj => by simpa using hz (j + 1) (by simpa using hj))
theorem zero_step {l : List Int} {k : Nat} (hz : ∀ j, j < k → l[j]? = some 0) (hx : l[k]? = some 0) : ∀ j, j < k + 1 → l[j]? = some 0 := fun j hj => by
  by_cases e : j = k
  · subst e; exact hx
  · exact hz j (by omega)
theorem ask_len (s : St) (c : Cm) (k : Int) : (askL s c k).length ≤ 5 := by
  unfold askL
  repeat (first | (split; · simp) | simp)
theorem fits_eq (s : St) : fitsB s = ((s.armed == flyB s.mode) && (!lostB s s.mode && !blindB s s.mode)) := by
  unfold fitsB lostB blindB
  have e : decide (needsN s.mode ≤ (soundN s.iso : Int)) = !decide ((soundN s.iso : Int) < needsN s.mode) := by by_cases h : (soundN s.iso : Int) < needsN s.mode <;> simp [h] <;> omega
  rw [e]
  cases s.home <;> cases homeB s.mode <;> simp
theorem done_kind {s : St} {c : Cm} (h : deltaE s c = 0) : (c.kind = 1 ∨ c.kind = 2 ∨ c.kind = 3 ∨ c.kind = 4) ∨ ((c.kind = 5 ∨ c.kind = 6) ∧ sensor c.n = true) := by
  unfold deltaE at h
  by_cases k1 : c.kind = 1
  · exact Or.inl (Or.inl k1)
  rw [if_neg k1] at h
  by_cases k2 : c.kind = 2
  · exact Or.inl (Or.inr (Or.inl k2))
  rw [if_neg k2] at h
  by_cases k3 : c.kind = 3
  · exact Or.inl (Or.inr (Or.inr (Or.inl k3)))
  rw [if_neg k3] at h
  by_cases k4 : c.kind = 4
  · exact Or.inl (Or.inr (Or.inr (Or.inr k4)))
  rw [if_neg k4] at h
  by_cases k5 : c.kind = 5
  · rw [if_pos k5] at h
    refine Or.inr ⟨Or.inl k5, ?_⟩
    unfold isoE at h
    cases hs : sensor c.n with
    | true => rfl
    | false => rw [hs, if_pos rfl] at h; cases h
  rw [if_neg k5] at h
  by_cases k6 : c.kind = 6
  · rw [if_pos k6] at h
    refine Or.inr ⟨Or.inr k6, ?_⟩
    cases hs : sensor c.n with
    | true => rfl
    | false => rw [hs, if_pos rfl] at h; cases h
  · rw [if_neg k6] at h; cases h

set_option maxRecDepth 100000 in
set_option maxHeartbeats 8000000 in
theorem own16done1 (s : St) (c : Cm) (W : World) (hk : c.kind = 1) : Gives Try.prog 24 #[.agg #[.int .i64 s.mode, .bool s.armed, .bool s.home, .int .i64 s.lat, .int .i64 s.lon, .int .i64 s.iso], .agg #[.int .i64 c.kind, .int .i64 c.n, .float .f64 c.lat, .float .f64 c.lon]] W (.agg #[.int .i64 c.n, .bool s.armed, .bool s.home, .int .i64 s.lat, .int .i64 s.lon, .int .i64 s.iso]) := by
  have n1 : (c.kind == 1) = true := by rw [hk]; rfl
  have n2 : (c.kind == 2) = false := by rw [hk]; rfl
  have n3 : (c.kind == 3) = false := by rw [hk]; rfl
  have n4 : (c.kind == 4) = false := by rw [hk]; rfl
  have n5 : (c.kind == 5) = false := by rw [hk]; rfl
  have n6 : (c.kind == 6) = false := by rw [hk]; rfl
  clear hk
  have st := Bs.in3 W 23 [.int .i64 s.mode, .bool s.armed, .bool s.home, .int .i64 s.lat, .int .i64 s.lon, .int .i64 s.iso] 26 [.int .i64 c.kind, .int .i64 c.n, .float .f64 c.lat, .float .f64 c.lon] 23 [.int .i64 0, .bool false, .bool false, .int .i64 0, .int .i64 0, .int .i64 0]
  go_enter Try.func24, Try.ntmps24
  have fc0 := (st.box 2 rfl).f6; have fc1 := (st.box 1 rfl).f4; have fc2 := (st.box 0 rfl).f6
  go_wp2
  clear fc0 fc1 fc2
  replace st := Bs.in3 W 23 [.int .i64 c.n, .bool s.armed, .bool s.home, .int .i64 s.lat, .int .i64 s.lon, .int .i64 s.iso] 26 [.int .i64 c.kind, .int .i64 c.n, .float .f64 c.lat, .float .f64 c.lon] 23 [.int .i64 c.n, .bool s.armed, .bool s.home, .int .i64 s.lat, .int .i64 s.lon, .int .i64 s.iso]
  have fc0 := (st.box 2 rfl).f6; have fc1 := (st.box 1 rfl).f4; have fc2 := (st.box 0 rfl).f6
  exact bodyPost_ret (v := .agg #[.int .i64 c.n, .bool s.armed, .bool s.home, .int .i64 s.lat, .int .i64 s.lon, .int .i64 s.iso]) (by simp [results, Try.results24, go_sem, fc0, fc1, fc2]) rfl ⟨rfl, st.lo⟩

set_option maxRecDepth 100000 in
set_option maxHeartbeats 8000000 in
theorem own16done2 (s : St) (c : Cm) (W : World) (hk : c.kind = 2) : Gives Try.prog 24 #[.agg #[.int .i64 s.mode, .bool s.armed, .bool s.home, .int .i64 s.lat, .int .i64 s.lon, .int .i64 s.iso], .agg #[.int .i64 c.kind, .int .i64 c.n, .float .f64 c.lat, .float .f64 c.lon]] W (.agg #[.int .i64 1, .bool true, .bool s.home, .int .i64 s.lat, .int .i64 s.lon, .int .i64 s.iso]) := by
  have n1 : (c.kind == 1) = false := by rw [hk]; rfl
  have n2 : (c.kind == 2) = true := by rw [hk]; rfl
  have n3 : (c.kind == 3) = false := by rw [hk]; rfl
  have n4 : (c.kind == 4) = false := by rw [hk]; rfl
  have n5 : (c.kind == 5) = false := by rw [hk]; rfl
  have n6 : (c.kind == 6) = false := by rw [hk]; rfl
  clear hk
  have st := Bs.in3 W 23 [.int .i64 s.mode, .bool s.armed, .bool s.home, .int .i64 s.lat, .int .i64 s.lon, .int .i64 s.iso] 26 [.int .i64 c.kind, .int .i64 c.n, .float .f64 c.lat, .float .f64 c.lon] 23 [.int .i64 0, .bool false, .bool false, .int .i64 0, .int .i64 0, .int .i64 0]
  go_enter Try.func24, Try.ntmps24
  have fc0 := (st.box 2 rfl).f6; have fc1 := (st.box 1 rfl).f4; have fc2 := (st.box 0 rfl).f6
  go_wp2
  clear fc0 fc1 fc2
  replace st := Bs.in3 W 23 [.int .i64 1, .bool true, .bool s.home, .int .i64 s.lat, .int .i64 s.lon, .int .i64 s.iso] 26 [.int .i64 c.kind, .int .i64 1, .float .f64 c.lat, .float .f64 c.lon] 23 [.int .i64 1, .bool true, .bool s.home, .int .i64 s.lat, .int .i64 s.lon, .int .i64 s.iso]
  have fc0 := (st.box 2 rfl).f6; have fc1 := (st.box 1 rfl).f4; have fc2 := (st.box 0 rfl).f6
  exact bodyPost_ret (v := .agg #[.int .i64 1, .bool true, .bool s.home, .int .i64 s.lat, .int .i64 s.lon, .int .i64 s.iso]) (by simp [results, Try.results24, go_sem, fc0, fc1, fc2]) rfl ⟨rfl, st.lo⟩

set_option maxRecDepth 100000 in
set_option maxHeartbeats 8000000 in
theorem own16done3 (s : St) (c : Cm) (W : World) (hk : c.kind = 3) : Gives Try.prog 24 #[.agg #[.int .i64 s.mode, .bool s.armed, .bool s.home, .int .i64 s.lat, .int .i64 s.lon, .int .i64 s.iso], .agg #[.int .i64 c.kind, .int .i64 c.n, .float .f64 c.lat, .float .f64 c.lon]] W (.agg #[.int .i64 0, .bool false, .bool s.home, .int .i64 s.lat, .int .i64 s.lon, .int .i64 s.iso]) := by
  have n1 : (c.kind == 1) = false := by rw [hk]; rfl
  have n2 : (c.kind == 2) = false := by rw [hk]; rfl
  have n3 : (c.kind == 3) = true := by rw [hk]; rfl
  have n4 : (c.kind == 4) = false := by rw [hk]; rfl
  have n5 : (c.kind == 5) = false := by rw [hk]; rfl
  have n6 : (c.kind == 6) = false := by rw [hk]; rfl
  clear hk
  have st := Bs.in3 W 23 [.int .i64 s.mode, .bool s.armed, .bool s.home, .int .i64 s.lat, .int .i64 s.lon, .int .i64 s.iso] 26 [.int .i64 c.kind, .int .i64 c.n, .float .f64 c.lat, .float .f64 c.lon] 23 [.int .i64 0, .bool false, .bool false, .int .i64 0, .int .i64 0, .int .i64 0]
  go_enter Try.func24, Try.ntmps24
  have fc0 := (st.box 2 rfl).f6; have fc1 := (st.box 1 rfl).f4; have fc2 := (st.box 0 rfl).f6
  go_wp2
  clear fc0 fc1 fc2
  replace st := Bs.in3 W 23 [.int .i64 0, .bool false, .bool s.home, .int .i64 s.lat, .int .i64 s.lon, .int .i64 s.iso] 26 [.int .i64 c.kind, .int .i64 c.n, .float .f64 c.lat, .float .f64 c.lon] 23 [.int .i64 0, .bool false, .bool s.home, .int .i64 s.lat, .int .i64 s.lon, .int .i64 s.iso]
  have fc0 := (st.box 2 rfl).f6; have fc1 := (st.box 1 rfl).f4; have fc2 := (st.box 0 rfl).f6
  exact bodyPost_ret (v := .agg #[.int .i64 0, .bool false, .bool s.home, .int .i64 s.lat, .int .i64 s.lon, .int .i64 s.iso]) (by simp [results, Try.results24, go_sem, fc0, fc1, fc2]) rfl ⟨rfl, st.lo⟩

set_option maxRecDepth 100000 in
set_option maxHeartbeats 8000000 in
theorem own16done4 (s : St) (c : Cm) (W : World) (hk : c.kind = 4) (hc : c.ok) : Gives Try.prog 24 #[.agg #[.int .i64 s.mode, .bool s.armed, .bool s.home, .int .i64 s.lat, .int .i64 s.lon, .int .i64 s.iso], .agg #[.int .i64 c.kind, .int .i64 c.n, .float .f64 c.lat, .float .f64 c.lon]] W (.agg #[.int .i64 s.mode, .bool s.armed, .bool true, .int .i64 (placeA c), .int .i64 (placeO c), .int .i64 s.iso]) := by
  have n1 : (c.kind == 1) = false := by rw [hk]; rfl
  have n2 : (c.kind == 2) = false := by rw [hk]; rfl
  have n3 : (c.kind == 3) = false := by rw [hk]; rfl
  have n4 : (c.kind == 4) = true := by rw [hk]; rfl
  have n5 : (c.kind == 5) = false := by rw [hk]; rfl
  have n6 : (c.kind == 6) = false := by rw [hk]; rfl
  clear hk
  have TP := Lib.hid (fun (V : World) => own16placeOf c V hc)
  clear hc
  have st := Bs.in3 W 23 [.int .i64 s.mode, .bool s.armed, .bool s.home, .int .i64 s.lat, .int .i64 s.lon, .int .i64 s.iso] 26 [.int .i64 c.kind, .int .i64 c.n, .float .f64 c.lat, .float .f64 c.lon] 23 [.int .i64 0, .bool false, .bool false, .int .i64 0, .int .i64 0, .int .i64 0]
  go_enter Try.func24, Try.ntmps24
  have fc0 := (st.box 2 rfl).f6; have fc1 := (st.box 1 rfl).f4; have fc2 := (st.box 0 rfl).f6
  go_wp2_with fail
  clear fc0 fc1 fc2
  replace st := Bs.in3 W 23 [.int .i64 s.mode, .bool s.armed, .bool true, .int .i64 s.lat, .int .i64 s.lon, .int .i64 s.iso] 26 [.int .i64 c.kind, .int .i64 c.n, .float .f64 c.lat, .float .f64 c.lon] 23 [.int .i64 0, .bool false, .bool false, .int .i64 0, .int .i64 0, .int .i64 0]
  have fc0 := (st.box 2 rfl).f6; have fc1 := (st.box 1 rfl).f4; have fc2 := (st.box 0 rfl).f6
  refine callB st (TP.out _) ?_; clear st fc0 fc1 fc2; intro V1 st
  have fc0 := (st.box 2 rfl).f6; have fc1 := (st.box 1 rfl).f4; have fc2 := (st.box 0 rfl).f6
  go_wp2
  clear fc0 fc1 fc2
  replace st := ((st.set 2 3 (.int .i64 (placeA c)) rfl).set 2 4 (.int .i64 (placeO c)) rfl).name; obtain ⟨V2, hV, st⟩ := st; rw [hV]; clear hV
  replace st := st.put6 0 (.int .i64 s.mode) (.bool s.armed) (.bool true) (.int .i64 (placeA c)) (.int .i64 (placeO c)) (.int .i64 s.iso) rfl; obtain ⟨V3, hV, st⟩ := st; rw [hV]; clear hV
  have fc0 := (st.box 2 rfl).f6; have fc1 := (st.box 1 rfl).f4; have fc2 := (st.box 0 rfl).f6
  exact bodyPost_ret (v := .agg #[.int .i64 s.mode, .bool s.armed, .bool true, .int .i64 (placeA c), .int .i64 (placeO c), .int .i64 s.iso]) (by simp [results, Try.results24, go_sem, fc0, fc1, fc2]) rfl ⟨rfl, st.lo⟩

set_option maxRecDepth 100000 in
set_option maxHeartbeats 8000000 in
theorem own16done5 (s : St) (c : Cm) (W : World) (hk : c.kind = 5) : Gives Try.prog 24 #[.agg #[.int .i64 s.mode, .bool s.armed, .bool s.home, .int .i64 s.lat, .int .i64 s.lon, .int .i64 s.iso], .agg #[.int .i64 c.kind, .int .i64 c.n, .float .f64 c.lat, .float .f64 c.lon]] W (.agg #[.int .i64 s.mode, .bool s.armed, .bool s.home, .int .i64 s.lat, .int .i64 s.lon, .int .i64 (bits .or .i64 s.iso (bitN c.n))]) := by
  have n1 : (c.kind == 1) = false := by rw [hk]; rfl
  have n2 : (c.kind == 2) = false := by rw [hk]; rfl
  have n3 : (c.kind == 3) = false := by rw [hk]; rfl
  have n4 : (c.kind == 4) = false := by rw [hk]; rfl
  have n5 : (c.kind == 5) = true := by rw [hk]; rfl
  have n6 : (c.kind == 6) = false := by rw [hk]; rfl
  clear hk
  have TI := Lib.hid (fun (V : World) => own16bitOf c.n V)
  have st := Bs.in3 W 23 [.int .i64 s.mode, .bool s.armed, .bool s.home, .int .i64 s.lat, .int .i64 s.lon, .int .i64 s.iso] 26 [.int .i64 c.kind, .int .i64 c.n, .float .f64 c.lat, .float .f64 c.lon] 23 [.int .i64 0, .bool false, .bool false, .int .i64 0, .int .i64 0, .int .i64 0]
  go_enter Try.func24, Try.ntmps24
  have fc0 := (st.box 2 rfl).f6; have fc1 := (st.box 1 rfl).f4; have fc2 := (st.box 0 rfl).f6
  go_wp2_with fail
  clear fc0 fc1 fc2
  replace st := st.drew
  refine rh (fun w => C4 w (W.heap.size + 1) (.int .i64 c.kind) (.int .i64 c.n) (.float .f64 c.lat) (.float .f64 c.lon)) ((st.box 1 rfl).c4) fun hHeld => ?_
  replace st := st.name; obtain ⟨V1, hV, st⟩ := st; rw [hV] at hHeld ⊢; clear hV
  refine tq 0 ?_; refine tq 2 ?_; refine tq 3 ?_
  try simp only [Act.put, l1, l2, l3, l4, l5, l6]
  refine wpAnyH_ready (rs := [1, 4]) (by kernel_rfl) (by simp) (AllReadyH.cons rfl (fun K hK => ?_) (AllReadyH.cons rfl (fun K hK => ?_) (AllReadyH.nil)))
  · have fc0 := (st.box 2 rfl).f6; have fc1 := (st.box 1 rfl).f4; have fc2 := (st.box 0 rfl).f6
    go_simp
    try go_wp2_with fail
    clear hHeld fc0 fc1 fc2; refine hK.out _ _ ((st.box 1 rfl).c4) fun hHeld => ?_; clear hK K
    try simp only [Act.put, l1, l2, l3, l4, l5, l6]
    refine rd 4 fun K hK => ?_
    have fc0 := (st.box 2 rfl).f6; have fc1 := (st.box 1 rfl).f4; have fc2 := (st.box 0 rfl).f6
    go_simp
    refine callB st (TI.out _) ?_; clear st fc0 fc1 fc2; intro V2 st
    have fc0 := (st.box 2 rfl).f6; have fc1 := (st.box 1 rfl).f4; have fc2 := (st.box 0 rfl).f6
    try go_wp2_with fail
    clear hHeld fc0 fc1 fc2; refine hK.out _ _ ((st.box 1 rfl).c4) fun hHeld => ?_; clear hK K
    try simp only [Act.put, l1, l2, l3, l4, l5, l6]
    refine tq 5 ?_; refine tq 6 ?_
    try simp only [Act.put, l1, l2, l3, l4, l5, l6]
    refine rd 7 fun K hK => ?_
    have fc0 := (st.box 2 rfl).f6; have fc1 := (st.box 1 rfl).f4; have fc2 := (st.box 0 rfl).f6
    go_simp
    try go_wp2_with fail
    clear fc0 fc1 fc2
    replace st := (st.set 2 5 (.int .i64 (bits .or .i64 s.iso (bitN c.n))) rfl).name; obtain ⟨V3, hV, st⟩ := st; rw [hV]; clear hV
    clear hHeld; refine hK.out _ _ ((st.box 1 rfl).c4) fun hHeld => ?_; clear hK K
    try simp only [Act.put, l1, l2, l3, l4, l5, l6]
    refine wpAnyH_done (by kernel_rfl) ?_ _; clear hHeld
    have fc0 := (st.box 2 rfl).f6; have fc1 := (st.box 1 rfl).f4; have fc2 := (st.box 0 rfl).f6
    go_wp2
    clear fc0 fc1 fc2
    replace st := st.put6 0 (.int .i64 s.mode) (.bool s.armed) (.bool s.home) (.int .i64 s.lat) (.int .i64 s.lon) (.int .i64 (bits .or .i64 s.iso (bitN c.n))) rfl; obtain ⟨V4, hV, st⟩ := st; rw [hV]; clear hV
    have fc0 := (st.box 2 rfl).f6; have fc1 := (st.box 1 rfl).f4; have fc2 := (st.box 0 rfl).f6
    exact bodyPost_ret (v := .agg #[.int .i64 s.mode, .bool s.armed, .bool s.home, .int .i64 s.lat, .int .i64 s.lon, .int .i64 (bits .or .i64 s.iso (bitN c.n))]) (by simp [results, Try.results24, go_sem, fc0, fc1, fc2]) rfl ⟨rfl, st.lo⟩
  · have fc0 := (st.box 2 rfl).f6; have fc1 := (st.box 1 rfl).f4; have fc2 := (st.box 0 rfl).f6
    go_simp
    refine callB st (TI.out _) ?_; clear st fc0 fc1 fc2; intro V2 st
    have fc0 := (st.box 2 rfl).f6; have fc1 := (st.box 1 rfl).f4; have fc2 := (st.box 0 rfl).f6
    try go_wp2_with fail
    clear hHeld fc0 fc1 fc2; refine hK.out _ _ ((st.box 1 rfl).c4) fun hHeld => ?_; clear hK K
    try simp only [Act.put, l1, l2, l3, l4, l5, l6]
    refine rd 1 fun K hK => ?_
    have fc0 := (st.box 2 rfl).f6; have fc1 := (st.box 1 rfl).f4; have fc2 := (st.box 0 rfl).f6
    go_simp
    try go_wp2_with fail
    clear hHeld fc0 fc1 fc2; refine hK.out _ _ ((st.box 1 rfl).c4) fun hHeld => ?_; clear hK K
    try simp only [Act.put, l1, l2, l3, l4, l5, l6]
    refine tq 5 ?_; refine tq 6 ?_
    try simp only [Act.put, l1, l2, l3, l4, l5, l6]
    refine rd 7 fun K hK => ?_
    have fc0 := (st.box 2 rfl).f6; have fc1 := (st.box 1 rfl).f4; have fc2 := (st.box 0 rfl).f6
    go_simp
    try go_wp2_with fail
    clear fc0 fc1 fc2
    replace st := (st.set 2 5 (.int .i64 (bits .or .i64 s.iso (bitN c.n))) rfl).name; obtain ⟨V3, hV, st⟩ := st; rw [hV]; clear hV
    clear hHeld; refine hK.out _ _ ((st.box 1 rfl).c4) fun hHeld => ?_; clear hK K
    try simp only [Act.put, l1, l2, l3, l4, l5, l6]
    refine wpAnyH_done (by kernel_rfl) ?_ _; clear hHeld
    have fc0 := (st.box 2 rfl).f6; have fc1 := (st.box 1 rfl).f4; have fc2 := (st.box 0 rfl).f6
    go_wp2
    clear fc0 fc1 fc2
    replace st := st.put6 0 (.int .i64 s.mode) (.bool s.armed) (.bool s.home) (.int .i64 s.lat) (.int .i64 s.lon) (.int .i64 (bits .or .i64 s.iso (bitN c.n))) rfl; obtain ⟨V4, hV, st⟩ := st; rw [hV]; clear hV
    have fc0 := (st.box 2 rfl).f6; have fc1 := (st.box 1 rfl).f4; have fc2 := (st.box 0 rfl).f6
    exact bodyPost_ret (v := .agg #[.int .i64 s.mode, .bool s.armed, .bool s.home, .int .i64 s.lat, .int .i64 s.lon, .int .i64 (bits .or .i64 s.iso (bitN c.n))]) (by simp [results, Try.results24, go_sem, fc0, fc1, fc2]) rfl ⟨rfl, st.lo⟩

set_option maxRecDepth 100000 in
set_option maxHeartbeats 8000000 in
theorem own16done6 (s : St) (c : Cm) (W : World) (hk : c.kind = 6) : Gives Try.prog 24 #[.agg #[.int .i64 s.mode, .bool s.armed, .bool s.home, .int .i64 s.lat, .int .i64 s.lon, .int .i64 s.iso], .agg #[.int .i64 c.kind, .int .i64 c.n, .float .f64 c.lat, .float .f64 c.lon]] W (.agg #[.int .i64 s.mode, .bool s.armed, .bool s.home, .int .i64 s.lat, .int .i64 s.lon, .int .i64 (bits .andNot .i64 s.iso (bitN c.n))]) := by
  have n1 : (c.kind == 1) = false := by rw [hk]; rfl
  have n2 : (c.kind == 2) = false := by rw [hk]; rfl
  have n3 : (c.kind == 3) = false := by rw [hk]; rfl
  have n4 : (c.kind == 4) = false := by rw [hk]; rfl
  have n5 : (c.kind == 5) = false := by rw [hk]; rfl
  have n6 : (c.kind == 6) = true := by rw [hk]; rfl
  clear hk
  have TI := Lib.hid (fun (V : World) => own16bitOf c.n V)
  have st := Bs.in3 W 23 [.int .i64 s.mode, .bool s.armed, .bool s.home, .int .i64 s.lat, .int .i64 s.lon, .int .i64 s.iso] 26 [.int .i64 c.kind, .int .i64 c.n, .float .f64 c.lat, .float .f64 c.lon] 23 [.int .i64 0, .bool false, .bool false, .int .i64 0, .int .i64 0, .int .i64 0]
  go_enter Try.func24, Try.ntmps24
  have fc0 := (st.box 2 rfl).f6; have fc1 := (st.box 1 rfl).f4; have fc2 := (st.box 0 rfl).f6
  go_wp2_with fail
  clear fc0 fc1 fc2
  replace st := st.drew
  refine rh (fun w => C4 w (W.heap.size + 1) (.int .i64 c.kind) (.int .i64 c.n) (.float .f64 c.lat) (.float .f64 c.lon)) ((st.box 1 rfl).c4) fun hHeld => ?_
  replace st := st.name; obtain ⟨V1, hV, st⟩ := st; rw [hV] at hHeld ⊢; clear hV
  refine tq 0 ?_; refine tq 2 ?_; refine tq 3 ?_
  try simp only [Act.put, l1, l2, l3, l4, l5, l6]
  refine wpAnyH_ready (rs := [1, 4]) (by kernel_rfl) (by simp) (AllReadyH.cons rfl (fun K hK => ?_) (AllReadyH.cons rfl (fun K hK => ?_) (AllReadyH.nil)))
  · have fc0 := (st.box 2 rfl).f6; have fc1 := (st.box 1 rfl).f4; have fc2 := (st.box 0 rfl).f6
    go_simp
    try go_wp2_with fail
    clear hHeld fc0 fc1 fc2; refine hK.out _ _ ((st.box 1 rfl).c4) fun hHeld => ?_; clear hK K
    try simp only [Act.put, l1, l2, l3, l4, l5, l6]
    refine rd 4 fun K hK => ?_
    have fc0 := (st.box 2 rfl).f6; have fc1 := (st.box 1 rfl).f4; have fc2 := (st.box 0 rfl).f6
    go_simp
    refine callB st (TI.out _) ?_; clear st fc0 fc1 fc2; intro V2 st
    have fc0 := (st.box 2 rfl).f6; have fc1 := (st.box 1 rfl).f4; have fc2 := (st.box 0 rfl).f6
    try go_wp2_with fail
    clear hHeld fc0 fc1 fc2; refine hK.out _ _ ((st.box 1 rfl).c4) fun hHeld => ?_; clear hK K
    try simp only [Act.put, l1, l2, l3, l4, l5, l6]
    refine tq 5 ?_; refine tq 6 ?_
    try simp only [Act.put, l1, l2, l3, l4, l5, l6]
    refine rd 7 fun K hK => ?_
    have fc0 := (st.box 2 rfl).f6; have fc1 := (st.box 1 rfl).f4; have fc2 := (st.box 0 rfl).f6
    go_simp
    try go_wp2_with fail
    clear fc0 fc1 fc2
    replace st := (st.set 2 5 (.int .i64 (bits .andNot .i64 s.iso (bitN c.n))) rfl).name; obtain ⟨V3, hV, st⟩ := st; rw [hV]; clear hV
    clear hHeld; refine hK.out _ _ ((st.box 1 rfl).c4) fun hHeld => ?_; clear hK K
    try simp only [Act.put, l1, l2, l3, l4, l5, l6]
    refine wpAnyH_done (by kernel_rfl) ?_ _; clear hHeld
    have fc0 := (st.box 2 rfl).f6; have fc1 := (st.box 1 rfl).f4; have fc2 := (st.box 0 rfl).f6
    go_wp2
    clear fc0 fc1 fc2
    replace st := st.put6 0 (.int .i64 s.mode) (.bool s.armed) (.bool s.home) (.int .i64 s.lat) (.int .i64 s.lon) (.int .i64 (bits .andNot .i64 s.iso (bitN c.n))) rfl; obtain ⟨V4, hV, st⟩ := st; rw [hV]; clear hV
    have fc0 := (st.box 2 rfl).f6; have fc1 := (st.box 1 rfl).f4; have fc2 := (st.box 0 rfl).f6
    exact bodyPost_ret (v := .agg #[.int .i64 s.mode, .bool s.armed, .bool s.home, .int .i64 s.lat, .int .i64 s.lon, .int .i64 (bits .andNot .i64 s.iso (bitN c.n))]) (by simp [results, Try.results24, go_sem, fc0, fc1, fc2]) rfl ⟨rfl, st.lo⟩
  · have fc0 := (st.box 2 rfl).f6; have fc1 := (st.box 1 rfl).f4; have fc2 := (st.box 0 rfl).f6
    go_simp
    refine callB st (TI.out _) ?_; clear st fc0 fc1 fc2; intro V2 st
    have fc0 := (st.box 2 rfl).f6; have fc1 := (st.box 1 rfl).f4; have fc2 := (st.box 0 rfl).f6
    try go_wp2_with fail
    clear hHeld fc0 fc1 fc2; refine hK.out _ _ ((st.box 1 rfl).c4) fun hHeld => ?_; clear hK K
    try simp only [Act.put, l1, l2, l3, l4, l5, l6]
    refine rd 1 fun K hK => ?_
    have fc0 := (st.box 2 rfl).f6; have fc1 := (st.box 1 rfl).f4; have fc2 := (st.box 0 rfl).f6
    go_simp
    try go_wp2_with fail
    clear hHeld fc0 fc1 fc2; refine hK.out _ _ ((st.box 1 rfl).c4) fun hHeld => ?_; clear hK K
    try simp only [Act.put, l1, l2, l3, l4, l5, l6]
    refine tq 5 ?_; refine tq 6 ?_
    try simp only [Act.put, l1, l2, l3, l4, l5, l6]
    refine rd 7 fun K hK => ?_
    have fc0 := (st.box 2 rfl).f6; have fc1 := (st.box 1 rfl).f4; have fc2 := (st.box 0 rfl).f6
    go_simp
    try go_wp2_with fail
    clear fc0 fc1 fc2
    replace st := (st.set 2 5 (.int .i64 (bits .andNot .i64 s.iso (bitN c.n))) rfl).name; obtain ⟨V3, hV, st⟩ := st; rw [hV]; clear hV
    clear hHeld; refine hK.out _ _ ((st.box 1 rfl).c4) fun hHeld => ?_; clear hK K
    try simp only [Act.put, l1, l2, l3, l4, l5, l6]
    refine wpAnyH_done (by kernel_rfl) ?_ _; clear hHeld
    have fc0 := (st.box 2 rfl).f6; have fc1 := (st.box 1 rfl).f4; have fc2 := (st.box 0 rfl).f6
    go_wp2
    clear fc0 fc1 fc2
    replace st := st.put6 0 (.int .i64 s.mode) (.bool s.armed) (.bool s.home) (.int .i64 s.lat) (.int .i64 s.lon) (.int .i64 (bits .andNot .i64 s.iso (bitN c.n))) rfl; obtain ⟨V4, hV, st⟩ := st; rw [hV]; clear hV
    have fc0 := (st.box 2 rfl).f6; have fc1 := (st.box 1 rfl).f4; have fc2 := (st.box 0 rfl).f6
    exact bodyPost_ret (v := .agg #[.int .i64 s.mode, .bool s.armed, .bool s.home, .int .i64 s.lat, .int .i64 s.lon, .int .i64 (bits .andNot .i64 s.iso (bitN c.n))]) (by simp [results, Try.results24, go_sem, fc0, fc1, fc2]) rfl ⟨rfl, st.lo⟩

set_option maxRecDepth 100000 in
set_option maxHeartbeats 8000000 in
theorem own16done (s : St) (c : Cm) (W : World) (hl : Legal s) (hc : c.ok) (he : deltaE s c = 0) : Gives Try.prog 24 #[.agg #[.int .i64 s.mode, .bool s.armed, .bool s.home, .int .i64 s.lat, .int .i64 s.lon, .int .i64 s.iso], .agg #[.int .i64 c.kind, .int .i64 c.n, .float .f64 c.lat, .float .f64 c.lon]] W (.agg #[.int .i64 (deltaT s c).mode, .bool (deltaT s c).armed, .bool (deltaT s c).home, .int .i64 (deltaT s c).lat, .int .i64 (deltaT s c).lon, .int .i64 (deltaT s c).iso]) := by
  rcases done_kind he with (k | k | k | k) | ⟨k | k, hs⟩
  · rw [show deltaT s c = setMode s c.n from by unfold deltaT; rw [if_pos k]]; exact own16done1 s c W k
  · rw [show deltaT s c = setArmed s true 1 from by unfold deltaT; rw [if_neg (by omega), if_pos k]]; exact own16done2 s c W k
  · rw [show deltaT s c = setArmed s false 0 from by unfold deltaT; rw [if_neg (by omega), if_neg (by omega), if_pos k]]; exact own16done3 s c W k
  · have h0 : fixE c.lat 90 = 0 := by
      have h := he
      unfold deltaE at h
      rw [if_neg (by omega), if_neg (by omega), if_neg (by omega), if_pos k] at h
      exact (homeE_zero.1 h).1
    have h := own16done4 s c W k hc
    rw [show placeA c = fixN c.lat 90 from if_neg (fun e => e h0), show placeO c = fixN c.lon 180 from if_neg (fun e => e h0)] at h
    rw [show deltaT s c = setHome s (fixN c.lat 90) (fixN c.lon 180) from by unfold deltaT; rw [if_neg (by omega), if_neg (by omega), if_neg (by omega), if_pos k]]; exact h
  · have h := own16done5 s c W k
    rw [(iso_bit hl.i hs).2.1] at h
    rw [show deltaT s c = setIso s (orI s.iso c.n.toNat) from by unfold deltaT; rw [if_neg (by omega), if_neg (by omega), if_neg (by omega), if_neg (by omega), if_pos k]]; exact h
  · have h := own16done6 s c W k
    rw [(iso_bit hl.i hs).2.2] at h
    rw [show deltaT s c = setIso s (clI s.iso c.n.toNat) from by unfold deltaT; rw [if_neg (by omega), if_neg (by omega), if_neg (by omega), if_neg (by omega), if_neg (by omega)]]; exact h

set_option maxRecDepth 100000 in
set_option maxHeartbeats 8000000 in
theorem own16Fits (s : St) (W : World) (hl : Legal s) : Gives Try.prog 15 #[.agg #[.int .i64 s.mode, .bool s.armed, .bool s.home, .int .i64 s.lat, .int .i64 s.lon, .int .i64 s.iso]] W (.bool (fitsB s)) := by
  rw [fits_eq]
  have TF := Lib.hid (fun (V : World) => own15Flying s.mode V (legal_ok hl).nm)
  have TL := fun (V : World) => own16lost s s.mode V (legal_ok hl).nm
  have TB := fun (V : World) => own16blind s s.mode V (legal_ok hl) (legal_ok hl).nm
  clear hl
  generalize flyB s.mode = fl at *
  cases e1 : (s.armed == fl)
  · rw [Bool.false_and]
    clear TL TB
    have st := Bs.in1 W 23 [.int .i64 s.mode, .bool s.armed, .bool s.home, .int .i64 s.lat, .int .i64 s.lon, .int .i64 s.iso]
    go_enter Try.func15, Try.ntmps15
    have fc0 := (st.box 0 rfl).f6
    go_wp2_with fail
    clear fc0
    replace st := st.drew
    refine rh (fun w => C6 w (W.heap.size) (.int .i64 s.mode) (.bool s.armed) (.bool s.home) (.int .i64 s.lat) (.int .i64 s.lon) (.int .i64 s.iso)) ((st.box 0 rfl).c6) fun hHeld => ?_
    replace st := st.name; obtain ⟨V1, hV, st⟩ := st; rw [hV] at hHeld ⊢; clear hV
    refine tq 0 ?_; try simp only [Act.put, l1, l2, l3, l4, l5, l6]
    refine tq 1 ?_; try simp only [Act.put, l1, l2, l3, l4, l5, l6]
    refine tq 2 ?_; try simp only [Act.put, l1, l2, l3, l4, l5, l6]
    refine tq 3 ?_; try simp only [Act.put, l1, l2, l3, l4, l5, l6]
    refine rd 4 fun K hK => ?_
    have fc0 := (st.box 0 rfl).f6
    go_simp
    refine callB st (TF.out _) ?_; clear st fc0; intro V2 st
    have fc0 := (st.box 0 rfl).f6
    try go_wp2_with fail
    clear hHeld fc0; refine hK.out _ _ ((st.box 0 rfl).c6) fun hHeld => ?_; clear hK K
    try simp only [Act.put, l1, l2, l3, l4, l5, l6]
    refine tq 5 ?_; try simp only [Act.put, l1, l2, l3, l4, l5, l6]
    refine tq 6 ?_; try simp only [Act.put, l1, l2, l3, l4, l5, l6]
    refine sk 7 ?_; try simp only [Act.put, l1, l2, l3, l4, l5, l6]
    refine sk 8 ?_; try simp only [Act.put, l1, l2, l3, l4, l5, l6]
    refine sk 9 ?_; try simp only [Act.put, l1, l2, l3, l4, l5, l6]
    refine sk 10 ?_; try simp only [Act.put, l1, l2, l3, l4, l5, l6]
    refine sk 11 ?_; try simp only [Act.put, l1, l2, l3, l4, l5, l6]
    refine tq 12 ?_; try simp only [Act.put, l1, l2, l3, l4, l5, l6]
    refine tq 13 ?_; try simp only [Act.put, l1, l2, l3, l4, l5, l6]
    refine sk 14 ?_; try simp only [Act.put, l1, l2, l3, l4, l5, l6]
    refine sk 15 ?_; try simp only [Act.put, l1, l2, l3, l4, l5, l6]
    refine sk 16 ?_; try simp only [Act.put, l1, l2, l3, l4, l5, l6]
    refine sk 17 ?_; try simp only [Act.put, l1, l2, l3, l4, l5, l6]
    refine sk 18 ?_; try simp only [Act.put, l1, l2, l3, l4, l5, l6]
    refine tq 19 ?_; try simp only [Act.put, l1, l2, l3, l4, l5, l6]
    refine tq 20 ?_; try simp only [Act.put, l1, l2, l3, l4, l5, l6]
    refine wpAnyH_done (by kernel_rfl) ?_ _; clear hHeld
    have fc0 := (st.box 0 rfl).f6
    go_wp2; go_ret; exact ⟨rfl, st.lo⟩
  · rw [Bool.true_and]
    cases e2 : lostB s s.mode
    · simp only [e2] at TL
      replace TL := Lib.hid TL
      replace TB := Lib.hid TB
      clear e2
      rw [Bool.not_false, Bool.true_and]
      generalize blindB s s.mode = bl at *
      have st := Bs.in1 W 23 [.int .i64 s.mode, .bool s.armed, .bool s.home, .int .i64 s.lat, .int .i64 s.lon, .int .i64 s.iso]
      go_enter Try.func15, Try.ntmps15
      have fc0 := (st.box 0 rfl).f6
      go_wp2_with fail
      clear fc0
      replace st := st.drew
      refine rh (fun w => C6 w (W.heap.size) (.int .i64 s.mode) (.bool s.armed) (.bool s.home) (.int .i64 s.lat) (.int .i64 s.lon) (.int .i64 s.iso)) ((st.box 0 rfl).c6) fun hHeld => ?_
      replace st := st.name; obtain ⟨V1, hV, st⟩ := st; rw [hV] at hHeld ⊢; clear hV
      refine tq 0 ?_; try simp only [Act.put, l1, l2, l3, l4, l5, l6]
      refine tq 1 ?_; try simp only [Act.put, l1, l2, l3, l4, l5, l6]
      refine tq 2 ?_; try simp only [Act.put, l1, l2, l3, l4, l5, l6]
      refine tq 3 ?_; try simp only [Act.put, l1, l2, l3, l4, l5, l6]
      refine rd 4 fun K hK => ?_
      have fc0 := (st.box 0 rfl).f6
      go_simp
      refine callB st (TF.out _) ?_; clear st fc0; intro V2 st
      have fc0 := (st.box 0 rfl).f6
      try go_wp2_with fail
      clear hHeld fc0; refine hK.out _ _ ((st.box 0 rfl).c6) fun hHeld => ?_; clear hK K
      try simp only [Act.put, l1, l2, l3, l4, l5, l6]
      refine tq 5 ?_; try simp only [Act.put, l1, l2, l3, l4, l5, l6]
      refine tq 6 ?_; try simp only [Act.put, l1, l2, l3, l4, l5, l6]
      refine tq 7 ?_; try simp only [Act.put, l1, l2, l3, l4, l5, l6]
      refine tq 8 ?_; try simp only [Act.put, l1, l2, l3, l4, l5, l6]
      refine tq 9 ?_; try simp only [Act.put, l1, l2, l3, l4, l5, l6]
      refine rd 10 fun K hK => ?_
      have fc0 := (st.box 0 rfl).f6
      go_simp
      refine callB st (TL.out _) ?_; clear st fc0; intro V3 st
      have fc0 := (st.box 0 rfl).f6
      try go_wp2_with fail
      clear hHeld fc0; refine hK.out _ _ ((st.box 0 rfl).c6) fun hHeld => ?_; clear hK K
      try simp only [Act.put, l1, l2, l3, l4, l5, l6]
      refine tq 11 ?_; try simp only [Act.put, l1, l2, l3, l4, l5, l6]
      refine tq 12 ?_; try simp only [Act.put, l1, l2, l3, l4, l5, l6]
      refine tq 13 ?_; try simp only [Act.put, l1, l2, l3, l4, l5, l6]
      refine tq 14 ?_; try simp only [Act.put, l1, l2, l3, l4, l5, l6]
      refine tq 15 ?_; try simp only [Act.put, l1, l2, l3, l4, l5, l6]
      refine tq 16 ?_; try simp only [Act.put, l1, l2, l3, l4, l5, l6]
      refine rd 17 fun K hK => ?_
      have fc0 := (st.box 0 rfl).f6
      go_simp
      refine callB st (TB.out _) ?_; clear st fc0; intro V4 st
      have fc0 := (st.box 0 rfl).f6
      try go_wp2_with fail
      clear hHeld fc0; refine hK.out _ _ ((st.box 0 rfl).c6) fun hHeld => ?_; clear hK K
      try simp only [Act.put, l1, l2, l3, l4, l5, l6]
      refine tq 18 ?_; try simp only [Act.put, l1, l2, l3, l4, l5, l6]
      refine tq 19 ?_; try simp only [Act.put, l1, l2, l3, l4, l5, l6]
      refine tq 20 ?_; try simp only [Act.put, l1, l2, l3, l4, l5, l6]
      refine wpAnyH_done (by kernel_rfl) ?_ _; clear hHeld
      have fc0 := (st.box 0 rfl).f6
      go_wp2; go_ret; exact ⟨rfl, st.lo⟩
    · simp only [e2] at TL
      replace TL := Lib.hid TL
      clear TB e2
      rw [Bool.not_true, Bool.false_and]
      have st := Bs.in1 W 23 [.int .i64 s.mode, .bool s.armed, .bool s.home, .int .i64 s.lat, .int .i64 s.lon, .int .i64 s.iso]
      go_enter Try.func15, Try.ntmps15
      have fc0 := (st.box 0 rfl).f6
      go_wp2_with fail
      clear fc0
      replace st := st.drew
      refine rh (fun w => C6 w (W.heap.size) (.int .i64 s.mode) (.bool s.armed) (.bool s.home) (.int .i64 s.lat) (.int .i64 s.lon) (.int .i64 s.iso)) ((st.box 0 rfl).c6) fun hHeld => ?_
      replace st := st.name; obtain ⟨V1, hV, st⟩ := st; rw [hV] at hHeld ⊢; clear hV
      refine tq 0 ?_; try simp only [Act.put, l1, l2, l3, l4, l5, l6]
      refine tq 1 ?_; try simp only [Act.put, l1, l2, l3, l4, l5, l6]
      refine tq 2 ?_; try simp only [Act.put, l1, l2, l3, l4, l5, l6]
      refine tq 3 ?_; try simp only [Act.put, l1, l2, l3, l4, l5, l6]
      refine rd 4 fun K hK => ?_
      have fc0 := (st.box 0 rfl).f6
      go_simp
      refine callB st (TF.out _) ?_; clear st fc0; intro V2 st
      have fc0 := (st.box 0 rfl).f6
      try go_wp2_with fail
      clear hHeld fc0; refine hK.out _ _ ((st.box 0 rfl).c6) fun hHeld => ?_; clear hK K
      try simp only [Act.put, l1, l2, l3, l4, l5, l6]
      refine tq 5 ?_; try simp only [Act.put, l1, l2, l3, l4, l5, l6]
      refine tq 6 ?_; try simp only [Act.put, l1, l2, l3, l4, l5, l6]
      refine tq 7 ?_; try simp only [Act.put, l1, l2, l3, l4, l5, l6]
      refine tq 8 ?_; try simp only [Act.put, l1, l2, l3, l4, l5, l6]
      refine tq 9 ?_; try simp only [Act.put, l1, l2, l3, l4, l5, l6]
      refine rd 10 fun K hK => ?_
      have fc0 := (st.box 0 rfl).f6
      go_simp
      refine callB st (TL.out _) ?_; clear st fc0; intro V3 st
      have fc0 := (st.box 0 rfl).f6
      try go_wp2_with fail
      clear hHeld fc0; refine hK.out _ _ ((st.box 0 rfl).c6) fun hHeld => ?_; clear hK K
      try simp only [Act.put, l1, l2, l3, l4, l5, l6]
      refine tq 11 ?_; try simp only [Act.put, l1, l2, l3, l4, l5, l6]
      refine tq 12 ?_; try simp only [Act.put, l1, l2, l3, l4, l5, l6]
      refine tq 13 ?_; try simp only [Act.put, l1, l2, l3, l4, l5, l6]
      refine sk 14 ?_; try simp only [Act.put, l1, l2, l3, l4, l5, l6]
      refine sk 15 ?_; try simp only [Act.put, l1, l2, l3, l4, l5, l6]
      refine sk 16 ?_; try simp only [Act.put, l1, l2, l3, l4, l5, l6]
      refine sk 17 ?_; try simp only [Act.put, l1, l2, l3, l4, l5, l6]
      refine sk 18 ?_; try simp only [Act.put, l1, l2, l3, l4, l5, l6]
      refine tq 19 ?_; try simp only [Act.put, l1, l2, l3, l4, l5, l6]
      refine tq 20 ?_; try simp only [Act.put, l1, l2, l3, l4, l5, l6]
      refine wpAnyH_done (by kernel_rfl) ?_ _; clear hHeld
      have fc0 := (st.box 0 rfl).f6
      go_wp2; go_ret; exact ⟨rfl, st.lo⟩

theorem look_in {w : World} {b n : Nat} {D : DataW Value} (h : w.ownsMap Try.prog 3 RV b n D) {x : Int} (hx : -9223372036854775808 ≤ x ∧ x ≤ 9223372036854775807) : ∃ v, (Instr.lookup 49 (.map (some b)) (.int .i64 x) true).run Try.prog w = .ok (.tuple #[v, .bool (Maps.has D (.int .i64 x))]) w ∧ (.held v : DataW Value) = D.atKey (.int .i64 x) (.held (.slice none 0 0)) := by
  have hk : keyOf Try.prog 3 (.int .i64 x) = some (.int .i64 x) := Maps.keyOf_int_mk rfl (by simpa [Lit.wf, IntKind.min, IntKind.max, IntKind.signed, IntKind.bits] using hx)
  obtain ⟨v, ps, h1, h2⟩ := h.look_ok (Maps.int_keyed rfl) (t := 49) rfl (z := .slice none 0 0) (by kernel_rfl) (zd := .held (.slice none 0 0)) (zp := []) rfl hk
  exact ⟨v, h1, by unfold RV at h2; injection h2 with h3; injection h3⟩

set_option maxRecDepth 100000 in
set_option maxHeartbeats 8000000 in
theorem own16Delta (s : St) (c : Cm) (W : World) (hl : Legal s) (hc : c.ok) :
    Gives Try.prog 13 #[.agg #[.int .i64 s.mode, .bool s.armed, .bool s.home, .int .i64 s.lat, .int .i64 s.lon, .int .i64 s.iso], .agg #[.int .i64 c.kind, .int .i64 c.n, .float .f64 c.lat, .float .f64 c.lon]] W (.tuple #[.agg #[.int .i64 (deltaS s c).mode, .bool (deltaS s c).armed, .bool (deltaS s c).home, .int .i64 (deltaS s c).lat, .int .i64 (deltaS s c).lon, .int .i64 (deltaS s c).iso], .int .i64 (deltaE s c)]) := by
  have TA := Lib.hid (fun (V : World) => own16asked s c V hl hc)
  have hx := hc.nk
  by_cases hk : 1 ≤ c.kind ∧ c.kind ≤ 6
  · have HF := first_ask s c hl hk
    have HX := Lib.hid (fun (x : Int) (h : firstE (askL s c c.kind) = x) (h0 : x ≠ 0) => (show Ending.returned (.tuple #[.agg #[.int .i64 s.mode, .bool s.armed, .bool s.home, .int .i64 s.lat, .int .i64 s.lon, .int .i64 s.iso], .int .i64 (x)]) = Ending.returned (.tuple #[.agg #[.int .i64 (deltaS s c).mode, .bool (deltaS s c).armed, .bool (deltaS s c).home, .int .i64 (deltaS s c).lat, .int .i64 (deltaS s c).lon, .int .i64 (deltaS s c).iso], .int .i64 (deltaE s c)]) from by have e := HF.symm.trans h; rw [delta_err (by rw [e]; exact h0), e]))
    have HY := Lib.hid (fun (h : firstE (askL s c c.kind) = 0) => (show Ending.returned (.tuple #[.agg #[.int .i64 (deltaT s c).mode, .bool (deltaT s c).armed, .bool (deltaT s c).home, .int .i64 (deltaT s c).lat, .int .i64 (deltaT s c).lon, .int .i64 (deltaT s c).iso], .int .i64 (0)]) = Ending.returned (.tuple #[.agg #[.int .i64 (deltaS s c).mode, .bool (deltaS s c).armed, .bool (deltaS s c).home, .int .i64 (deltaS s c).lat, .int .i64 (deltaS s c).lon, .int .i64 (deltaS s c).iso], .int .i64 (deltaE s c)]) from by have e := HF.symm.trans h; rw [delta_done e, e]))
    have TD := Lib.hid (fun (h : firstE (askL s c c.kind) = 0) (V : World) => own16done s c V hl hc (HF.symm.trans h))
    have hlen := ask_len s c c.kind
    clear HF hl hc
    have st := Bs.in3 W 23 [.int .i64 s.mode, .bool s.armed, .bool s.home, .int .i64 s.lat, .int .i64 s.lon, .int .i64 s.iso] 26 [.int .i64 c.kind, .int .i64 c.n, .float .f64 c.lat, .float .f64 c.lon] 23 [.int .i64 0, .bool false, .bool false, .int .i64 0, .int .i64 0, .int .i64 0]
    go_enter Try.func13, Try.ntmps13
    have fc0 := (st.box 2 rfl).f6; have fc1 := (st.box 1 rfl).f4; have fc2 := (st.box 0 rfl).f6
    go_wp2_with fail
    clear fc0 fc1 fc2
    replace st := st.drew
    refine rh (fun w => C6 w (W.heap.size) (.int .i64 s.mode) (.bool s.armed) (.bool s.home) (.int .i64 s.lat) (.int .i64 s.lon) (.int .i64 s.iso) ∧ C4 w (W.heap.size + 1) (.int .i64 c.kind) (.int .i64 c.n) (.float .f64 c.lat) (.float .f64 c.lon)) ⟨(st.box 2 rfl).c6, (st.box 1 rfl).c4⟩ fun hHeld => ?_
    replace st := st.name; obtain ⟨V1, hV, st⟩ := st; rw [hV] at hHeld ⊢; clear hV
    refine tq 0 ?_; refine tq 1 ?_; refine tq 3 ?_; refine tq 4 ?_
    try simp only [Act.put, l1, l2, l3, l4, l5, l6]
    refine rd 2 fun K hK => ?_
    have fc0 := (st.box 2 rfl).f6; have fc1 := (st.box 1 rfl).f4; have fc2 := (st.box 0 rfl).f6
    go_simp
    refine (TA.out _).mono ?_
    rintro e V2 ⟨b, n, D, rfl, hB, hD, hno, hat⟩
    clear fc0 fc1 fc2
    replace st := st.seq hB
    clear hB
    obtain ⟨u, hrun, hu⟩ := look_in hD hx
    obtain ⟨g, hg, hA⟩ := hat c.kind hk; rw [hg] at hu; cases hu; rw [Maps.has_true_of_atKey hg] at hrun; clear hno hat hg hD
    try go_wp2_with fail
    clear hHeld; refine hK.out _ _ ⟨(st.box 2 rfl).c6, (st.box 1 rfl).c4⟩ fun hHeld => ?_; clear hK K
    try simp only [Act.put, l1, l2, l3, l4, l5, l6]
    refine rd 5 fun K hK => ?_
    have fc0 := (st.box 2 rfl).f6; have fc1 := (st.box 1 rfl).f4; have fc2 := (st.box 0 rfl).f6
    go_simp
    try go_wp2_with fail
    clear hHeld fc0 fc1 fc2; refine hK.out _ _ ⟨(st.box 2 rfl).c6, (st.box 1 rfl).c4⟩ fun hHeld => ?_; clear hK K
    try simp only [Act.put, l1, l2, l3, l4, l5, l6]
    refine tq 6 ?_; refine tq 7 ?_; refine tq 8 ?_; refine tq 9 ?_; refine tq 10 ?_
    try simp only [Act.put, l1, l2, l3, l4, l5, l6]
    refine wpAnyH_done (by kernel_rfl) ?_ _; clear hHeld
    have fc0 := (st.box 2 rfl).f6; have fc1 := (st.box 1 rfl).f4; have fc2 := (st.box 0 rfl).f6
    clear hrun hx hk
    generalize askL s c c.kind = l at *
    clear fc0 fc1 fc2
    go_wp2
    go_loopw [24] (fun i w => ∃ k : Nat, k ≤ l.length ∧ i = .int .i64 k ∧ (∀ j, j < k → l[j]? = some 0) ∧ IntsAt w (some ⟨g, 0, none⟩) l ∧ Bs W w [(23, W.heap.size + 1 + 1, [.int .i64 0, .bool false, .bool false, .int .i64 0, .int .i64 0, .int .i64 0]), (26, W.heap.size + 1, [.int .i64 c.kind, .int .i64 c.n, .float .f64 c.lat, .float .f64 c.lon]), (23, W.heap.size, [.int .i64 s.mode, .bool s.armed, .bool s.home, .int .i64 s.lat, .int .i64 s.lon, .int .i64 s.iso])]) (fun i _ => l.length - (intOf i).toNat)
    case atStart => exact ⟨0, Nat.zero_le _, rfl, fun j hj => absurd hj (Nat.not_lt_zero _), hA, st⟩
    case round =>
      clear st hA; obtain ⟨k, hk, rfl, hz, hA, st⟩ := hrel
      replace hz := Lib.hid hz
      by_cases hlt : k < l.length
      · obtain ⟨x, hx⟩ : ∃ x, l[k]? = some x := ⟨_, List.getElem?_eq_getElem hlt⟩
        obtain ⟨g', off, e, y0⟩ := hA.at hx
        cases e
        rw [Nat.zero_add] at y0
        have i0 : (0 : Int) ≤ (k : Int) := by omega
        have i1 : (k : Int) < (l.length : Int) := by omega
        by_cases hx0 : x = 0
        · subst hx0
          have HZ := Lib.hid (zero_step hz.out hx)
          clear hx hz HX HY TD
          go_wp2
          go_roundw
          case rel => exact ⟨k + 1, by omega, by go_num, HZ.out, hA, st⟩
          case measure => simp [intOf]; omega
        · have HE := Lib.hid (HX.out x (first_at hz.out hx hx0) hx0)
          have n1 : (x != 0) = true := bne_iff_ne.2 hx0
          clear hx hx0 hz HX HY TD hlt
          have fc0 := (st.box 2 rfl).f6; have fc1 := (st.box 1 rfl).f4; have fc2 := (st.box 0 rfl).f6
          go_wp2
          clear fc0 fc1 fc2
          replace st := st.put6 0 (.int .i64 s.mode) (.bool s.armed) (.bool s.home) (.int .i64 s.lat) (.int .i64 s.lon) (.int .i64 s.iso) rfl; obtain ⟨V3, hV, st⟩ := st; rw [hV]; clear hV
          have fc0 := (st.box 2 rfl).f6; have fc1 := (st.box 1 rfl).f4; have fc2 := (st.box 0 rfl).f6
          try simp only [Exit.jump]
          exact bodyPost_ret (v := .tuple #[.agg #[.int .i64 s.mode, .bool s.armed, .bool s.home, .int .i64 s.lat, .int .i64 s.lon, .int .i64 s.iso], .int .i64 (x)]) (by simp [results, Try.results13, go_sem, fc0, fc1, fc2]) rfl ⟨HE.out, st.lo⟩
      · obtain rfl : k = l.length := by omega
        have h0 := first_none hz.out
        replace TD := Lib.hid (fun V => TD.out h0 V)
        have HE := Lib.hid (HY.out h0)
        clear h0 hz HX HY hlt hA
        have fc0 := (st.box 2 rfl).f6; have fc1 := (st.box 1 rfl).f4; have fc2 := (st.box 0 rfl).f6
        go_wp2_with fail; refine callB st (TD.out _) ?_; clear st fc0 fc1 fc2; intro V3 st
        have fc0 := (st.box 2 rfl).f6; have fc1 := (st.box 1 rfl).f4; have fc2 := (st.box 0 rfl).f6
        go_wp2
        clear fc0 fc1 fc2
        replace st := st.put6 0 (.int .i64 (deltaT s c).mode) (.bool (deltaT s c).armed) (.bool (deltaT s c).home) (.int .i64 (deltaT s c).lat) (.int .i64 (deltaT s c).lon) (.int .i64 (deltaT s c).iso) rfl; obtain ⟨V4, hV, st⟩ := st; rw [hV]; clear hV
        have fc0 := (st.box 2 rfl).f6; have fc1 := (st.box 1 rfl).f4; have fc2 := (st.box 0 rfl).f6
        try simp only [Exit.jump]
        exact bodyPost_ret (v := .tuple #[.agg #[.int .i64 (deltaT s c).mode, .bool (deltaT s c).armed, .bool (deltaT s c).home, .int .i64 (deltaT s c).lat, .int .i64 (deltaT s c).lon, .int .i64 (deltaT s c).iso], .int .i64 (0)]) (by simp [results, Try.results13, go_sem, fc0, fc1, fc2]) rfl ⟨HE.out, st.lo⟩
  · have hE : deltaE s c = 1 := by unfold deltaE; rw [if_neg (by omega), if_neg (by omega), if_neg (by omega), if_neg (by omega), if_neg (by omega), if_neg (by omega)]
    rw [delta_err (by rw [hE]; decide), hE]
    clear hl hc hE
    have st := Bs.in3 W 23 [.int .i64 s.mode, .bool s.armed, .bool s.home, .int .i64 s.lat, .int .i64 s.lon, .int .i64 s.iso] 26 [.int .i64 c.kind, .int .i64 c.n, .float .f64 c.lat, .float .f64 c.lon] 23 [.int .i64 0, .bool false, .bool false, .int .i64 0, .int .i64 0, .int .i64 0]
    go_enter Try.func13, Try.ntmps13
    have fc0 := (st.box 2 rfl).f6; have fc1 := (st.box 1 rfl).f4; have fc2 := (st.box 0 rfl).f6
    go_wp2_with fail
    clear fc0 fc1 fc2
    replace st := st.drew
    refine rh (fun w => C6 w (W.heap.size) (.int .i64 s.mode) (.bool s.armed) (.bool s.home) (.int .i64 s.lat) (.int .i64 s.lon) (.int .i64 s.iso) ∧ C4 w (W.heap.size + 1) (.int .i64 c.kind) (.int .i64 c.n) (.float .f64 c.lat) (.float .f64 c.lon)) ⟨(st.box 2 rfl).c6, (st.box 1 rfl).c4⟩ fun hHeld => ?_
    replace st := st.name; obtain ⟨V1, hV, st⟩ := st; rw [hV] at hHeld ⊢; clear hV
    refine tq 0 ?_; refine tq 1 ?_; refine tq 3 ?_; refine tq 4 ?_
    try simp only [Act.put, l1, l2, l3, l4, l5, l6]
    refine rd 2 fun K hK => ?_
    have fc0 := (st.box 2 rfl).f6; have fc1 := (st.box 1 rfl).f4; have fc2 := (st.box 0 rfl).f6
    go_simp
    refine (TA.out _).mono ?_
    rintro e V2 ⟨b, n, D, rfl, hB, hD, hno, hat⟩
    clear fc0 fc1 fc2
    replace st := st.seq hB
    clear hB
    obtain ⟨u, hrun, hu⟩ := look_in hD hx
    rw [Maps.atKey_of_not_has (hno _ (fun h => by simp at h; omega))] at hu; cases hu; rw [hno _ (fun h => by simp at h; omega)] at hrun; clear hno hat hD
    try go_wp2_with fail
    clear hHeld; refine hK.out _ _ ⟨(st.box 2 rfl).c6, (st.box 1 rfl).c4⟩ fun hHeld => ?_; clear hK K
    try simp only [Act.put, l1, l2, l3, l4, l5, l6]
    refine rd 5 fun K hK => ?_
    have fc0 := (st.box 2 rfl).f6; have fc1 := (st.box 1 rfl).f4; have fc2 := (st.box 0 rfl).f6
    go_simp
    try go_wp2_with fail
    clear hHeld fc0 fc1 fc2; refine hK.out _ _ ⟨(st.box 2 rfl).c6, (st.box 1 rfl).c4⟩ fun hHeld => ?_; clear hK K
    try simp only [Act.put, l1, l2, l3, l4, l5, l6]
    refine tq 6 ?_; refine tq 7 ?_; refine tq 8 ?_; refine tq 9 ?_; refine tq 10 ?_
    try simp only [Act.put, l1, l2, l3, l4, l5, l6]
    refine wpAnyH_done (by kernel_rfl) ?_ _; clear hHeld
    have fc0 := (st.box 2 rfl).f6; have fc1 := (st.box 1 rfl).f4; have fc2 := (st.box 0 rfl).f6
    clear hrun hx hk
    go_wp2
    clear fc0 fc1 fc2
    replace st := st.put6 0 (.int .i64 s.mode) (.bool s.armed) (.bool s.home) (.int .i64 s.lat) (.int .i64 s.lon) (.int .i64 s.iso) rfl; obtain ⟨V3, hV, st⟩ := st; rw [hV]; clear hV
    have fc0 := (st.box 2 rfl).f6; have fc1 := (st.box 1 rfl).f4; have fc2 := (st.box 0 rfl).f6
    exact bodyPost_ret (v := .tuple #[.agg #[.int .i64 s.mode, .bool s.armed, .bool s.home, .int .i64 s.lat, .int .i64 s.lon, .int .i64 s.iso], .int .i64 (1)]) (by simp [results, Try.results13, go_sem, fc0, fc1, fc2]) rfl ⟨rfl, st.lo⟩

end Go.Proofs.Ytdfacpppmfoiiaa

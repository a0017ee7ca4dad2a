/- Appends and fresh banks, cut anywhere and torn by any mask, on plain data; plain laws: no statement is proved here. -/
import Derived.Test.YtejhbamlnkhfcaaPlanPlain
namespace Go.Proofs.Ytejhbamlnkhfcaa
set_option linter.unusedVariables false

/-- A flash of which one bank holds other bytes, and has another count. -/
def upd (f : Fl) (k : Int) (u : ByteArray) (e : Int) : Fl := if k = 0 then ⟨u, f.b1, e, f.e1, f.lim⟩ else ⟨f.b0, u, f.e0, e, f.lim⟩
theorem upd_self (f : Fl) (k : Int) : upd f k (f.bank k) (f.erases k) = f := by
  unfold upd Fl.bank Fl.erases; split <;> rfl
theorem upd_upd (f : Fl) (k : Int) (u v : ByteArray) (e d : Int) : upd (upd f k u e) k v d = upd f k v d := by
  unfold upd; by_cases h : k = 0
  · simp only [if_pos h]
  · simp only [if_neg h]
theorem upd_bank (f : Fl) (k : Int) (u : ByteArray) (e : Int) : (upd f k u e).bank k = u := by
  unfold upd Fl.bank; by_cases h : k = 0
  · simp only [if_pos h]
  · simp only [if_neg h]
theorem upd_erases (f : Fl) (k : Int) (u : ByteArray) (e : Int) : (upd f k u e).erases k = e := by
  unfold upd Fl.erases; by_cases h : k = 0
  · simp only [if_pos h]
  · simp only [if_neg h]
theorem upd_lim (f : Fl) (k : Int) (u : ByteArray) (e : Int) : (upd f k u e).lim = f.lim := by
  unfold upd; split <;> rfl
theorem upd_other (f : Fl) {k : Int} (hk : k = 0 ∨ k = 1) (u : ByteArray) (e : Int) : (upd f k u e).bank (1 - k) = f.bank (1 - k) ∧ (upd f k u e).erases (1 - k) = f.erases (1 - k) := by
  rcases hk with rfl | rfl <;> exact ⟨rfl, rfl⟩
theorem set_upd (f : Fl) {k : Int} (u v : ByteArray) (e : Int) : (upd f k u e).setBank k v = upd f k v e := by
  unfold upd Fl.setBank; by_cases h : k = 0
  · simp only [if_pos h]
  · simp only [if_neg h]
theorem set_is_upd (f : Fl) (k : Int) (u : ByteArray) : f.setBank k u = upd f k u (f.erases k) := by
  unfold upd Fl.setBank Fl.erases; split <;> rfl
theorem erase_upd (f : Fl) {k : Int} (hk : k = 0 ∨ k = 1) (u : ByteArray) (e : Int) (he : e < f.lim) :
    doErr (upd f k u e) ⟨2, k, 0, ⟨#[]⟩⟩ = 0 ∧ doF (upd f k u e) ⟨2, k, 0, ⟨#[]⟩⟩ = upd f k (blankT u.size) (e + 1) ∧ ∀ m, tearF (upd f k u e) ⟨2, k, 0, ⟨#[]⟩⟩ m = upd f k (eraT u m) (e + 1) := by
  have h0 : eraseErr (upd f k u e) k = 0 := eraseErr_zero.2 ⟨hk, by rw [upd_erases, upd_lim]; exact he⟩
  have h1 : doErr (upd f k u e) ⟨2, k, 0, ⟨#[]⟩⟩ = 0 := (doErr_erase rfl).trans h0
  have h2 : doF (upd f k u e) ⟨2, k, 0, ⟨#[]⟩⟩ = upd f k (blankT u.size) (e + 1) := by
    rw [doF_erase rfl]
    show eraseF (upd f k u e) k = _
    rw [eraseF_banks h0]
    rcases hk with rfl | rfl <;> rfl
  refine ⟨h1, h2, fun m => ?_⟩
  rw [tearF_erase h1 rfl]
  show (eraseF (upd f k u e) k).setBank k (eraT ((upd f k u e).bank k) m) = _
  rw [upd_bank, show eraseF (upd f k u e) k = upd f k (blankT u.size) (e + 1) from (doF_erase rfl).symm.trans h2, set_upd]
theorem prog_upd (f : Fl) {k : Int} (hk : k = 0 ∨ k = 1) (u : ByteArray) (e : Int) {d : ByteArray} {j a : Nat} (hs : 24 * j + 24 ≤ u.size) (ha : a + d.size ≤ 24) (pa : a % 2 = 0) (pd : d.size % 2 = 0) {q : Int} (hq : q = 24 * (j : Int) + a) :
    doErr (upd f k u e) ⟨1, k, q, d⟩ = 0 ∧ doF (upd f k u e) ⟨1, k, q, d⟩ = upd f k (putT u j (bs ((slL u j).take a ++ (andL (((slL u j).drop a).take d.size) (bl d) ++ (slL u j).drop (a + d.size))))) e ∧
    ∀ m, tearF (upd f k u e) ⟨1, k, q, d⟩ m = upd f k (putT u j (bs ((slL u j).take a ++ (tornL (((slL u j).drop a).take d.size) (bl d) (bl m) ++ (slL u j).drop (a + d.size))))) e := by
  have hb := upd_bank f k u e
  have h0 : progErr (upd f k u e) k q d = 0 := by
    have hr : readErr (upd f k u e) k q d.size = 0 := readErr_zero.2 ⟨hk, by omega, by omega, by rw [hb]; omega⟩
    unfold progErr
    rw [if_neg (by rw [hr]; decide), if_neg (by omega)]
  have h1 : doErr (upd f k u e) ⟨1, k, q, d⟩ = 0 := (doErr_prog rfl).trans h0
  have hq2 : q.toNat = 24 * j + a := by omega
  refine ⟨h1, ?_, fun m => ?_⟩
  · rw [doF_prog rfl]
    show progF (upd f k u e) k q d = _
    unfold progF
    rw [if_pos h0, hb, hq2, splice_put hs ha, set_upd]
  · rw [tearF_prog h1 rfl]
    show (upd f k u e).setBank k (spliceT ((upd f k u e).bank k) q.toNat d m) = _
    rw [hb, hq2, spliceT_put hs ha, set_upd]

theorem rep_take (n k : Nat) : (List.replicate n (255 : UInt8)).take k = List.replicate (min k n) 255 := List.take_replicate
theorem rep_drop (n k : Nat) : (List.replicate n (255 : UInt8)).drop k = List.replicate (n - k) 255 := List.drop_replicate
theorem body_bs (r : Rec) : (bs (bodyL r)).size = 22 := by rw [bs_size, bodyL_length]
theorem mark_bs : (bs markL).size = 2 := rfl
/-- A record's body, and then its mark, at a place that is blank. -/
theorem body_upd (f : Fl) {k : Int} (hk : k = 0 ∨ k = 1) (u : ByteArray) (e : Int) {j : Nat} (hs : 24 * j + 24 ≤ u.size) (hb : slL u j = List.replicate 24 255) (r : Rec) {q : Int} (hq : q = 24 * (j : Int)) :
    doErr (upd f k u e) ⟨1, k, q, bs (bodyL r)⟩ = 0 ∧ doF (upd f k u e) ⟨1, k, q, bs (bodyL r)⟩ = upd f k (putT u j (bs (bodyL r ++ [255, 255]))) e ∧
    ∀ m, tearF (upd f k u e) ⟨1, k, q, bs (bodyL r)⟩ m = upd f k (putT u j (bs (tornL (List.replicate 22 255) (bodyL r) (bl m) ++ [255, 255]))) e := by
  obtain ⟨h1, h2, h3⟩ := prog_upd f hk u e (d := bs (bodyL r)) (j := j) (a := 0) hs (by rw [body_bs]; omega) rfl (by rw [body_bs]) (q := q) (by omega)
  rw [body_bs, bl_bs, hb] at h2 h3
  have e1 : ((List.replicate 24 (255 : UInt8)).drop 0).take 22 = List.replicate 22 255 := rfl
  have e2 : (List.replicate 24 (255 : UInt8)).drop (0 + 22) = [255, 255] := rfl
  rw [e1, e2, List.take_zero, List.nil_append] at h2
  rw [blank_andL (bodyL_length r)] at h2
  refine ⟨h1, h2, fun m => ?_⟩
  have := h3 m
  rwa [e1, e2, List.take_zero, List.nil_append] at this
theorem mark_upd (f : Fl) {k : Int} (hk : k = 0 ∨ k = 1) (u : ByteArray) (e : Int) {j : Nat} (hs : 24 * j + 24 ≤ u.size) (r : Rec) (hb : slL u j = bodyL r ++ [255, 255]) {q : Int} (hq : q = 24 * (j : Int) + 22) :
    doErr (upd f k u e) ⟨1, k, q, bs markL⟩ = 0 ∧ doF (upd f k u e) ⟨1, k, q, bs markL⟩ = upd f k (putT u j (bs (encL r))) e ∧
    ∀ m, tearF (upd f k u e) ⟨1, k, q, bs markL⟩ m = upd f k (putT u j (bs (bodyL r ++ tornL [255, 255] markL (bl m)))) e := by
  obtain ⟨h1, h2, h3⟩ := prog_upd f hk u e (d := bs markL) (j := j) (a := 22) hs (by rw [mark_bs]; omega) rfl (by rw [mark_bs]) (q := q) (by omega)
  rw [mark_bs, bl_bs, hb] at h2 h3
  have hl := bodyL_length r
  have e0 : (bodyL r ++ [255, 255]).take 22 = bodyL r := List.take_left' hl
  have e1 : ((bodyL r ++ [255, 255]).drop 22).take 2 = [255, 255] := by rw [List.drop_left' hl]; rfl
  have e2 : (bodyL r ++ [255, 255]).drop (22 + 2) = [] := List.drop_of_length_le (by rw [List.length_append, hl]; decide)
  rw [e0, e1, e2, List.append_nil, show andL [255, 255] markL = markL from rfl] at h2
  refine ⟨h1, h2, fun m => ?_⟩
  have := h3 m
  rwa [e0, e1, e2, List.append_nil] at this

/-- Of an append that is cut anywhere. -/
theorem append_play {f : Fl} {k : Int} {i : Nat} (hk : k = 0 ∨ k = 1) (hn : nextF (f.bank k) = i + 1) (r : Rec) (hr : r.ok) (hkr : 2 ≤ r.kind ∧ r.kind ≤ 3) (cut : Int) (m : ByteArray) :
    ∃ t : ByteArray, t.size = 24 ∧ playR f [⟨1, k, 24 * ((i : Int) + 1), bs (bodyL r)⟩, ⟨1, k, 24 * ((i : Int) + 1) + 22, bs markL⟩] cut m = (upd f k (putT (f.bank k) (i + 1) t) (f.erases k), (if 0 ≤ cut ∧ cut < 2 then cut.toNat else 2), 0) ∧
      (t = bs (encL r) ∨ stOf (bl t) ((i : Int) + 1) ≠ 2) ∧ (¬ (0 ≤ cut ∧ cut < 2) → t = bs (encL r)) := by
  obtain ⟨hle, hbl, _⟩ := next_all hn
  have hN := slotsN_eq (f.bank k)
  have hz : slotsF (f.bank k).size ≠ 0 := by omega
  have hsz := slots_size hz
  have hfit : 24 * (i + 1) + 24 ≤ (f.bank k).size := by omega
  have hb : slL (f.bank k) (i + 1) = List.replicate 24 255 := by
    have h1 := hbl i (Nat.le_refl _) (by omega)
    rw [show (i : Int) + 1 = ((i + 1 : Nat) : Int) from by omega, state_slL hz (by omega)] at h1
    exact stOf_zero h1
  have h24 : (bs (bodyL r ++ [255, 255])).size = 24 := by rw [bs_size, List.length_append, bodyL_length]; rfl
  have hself := upd_self f k
  obtain ⟨a1, a2, a3⟩ := body_upd f hk (f.bank k) (f.erases k) hfit hb r (q := 24 * ((i : Int) + 1)) (by omega)
  obtain ⟨b1, b2, b3⟩ := mark_upd f hk (putT (f.bank k) (i + 1) (bs (bodyL r ++ [255, 255]))) (f.erases k) (j := i + 1) (by rw [putT_size hfit h24]; exact hfit) r (by rw [slL_put hfit h24, bl_bs]) (q := 24 * ((i : Int) + 1) + 22) (by omega)
  rw [put_put hfit h24] at b2
  simp only [put_put hfit h24] at b3
  rw [hself] at a1 a2
  have hok : okRun f [⟨1, k, 24 * ((i : Int) + 1), bs (bodyL r)⟩, ⟨1, k, 24 * ((i : Int) + 1) + 22, bs markL⟩] := ⟨a1, by rw [a2]; exact b1, trivial⟩
  have hnm : ∀ l : List UInt8, l.length = 22 → stOf (l ++ [255, 255]) ((i : Int) + 1) ≠ 2 := fun l hl h2 =>
    dec_noMark (m := [255, 255]) hl (by decide) (stOf_two h2).1
  by_cases hc : 0 ≤ cut ∧ cut < 2
  · rw [if_pos hc]
    obtain ⟨c, rfl⟩ : ∃ c : Nat, cut = (c : Int) := ⟨cut.toNat, by omega⟩
    rcases (show c = 0 ∨ c = 1 from by omega) with rfl | rfl
    · refine ⟨bs (tornL (List.replicate 22 255) (bodyL r) (bl m) ++ [255, 255]), by rw [bs_size, List.length_append, tornL_length]; rfl, ?_, Or.inr ?_, fun h => absurd hc h⟩
      · rw [play_at hok (k := 0) rfl]
        show (tearF f _ m, 0, 0) = _
        have := a3 m
        rw [hself] at this
        rw [this]; rfl
      · rw [bl_bs]; exact hnm _ (by rw [tornL_length, List.length_replicate])
    · refine ⟨bs (bodyL r ++ tornL [255, 255] markL (bl m)), by rw [bs_size, List.length_append, bodyL_length, tornL_length]; rfl, ?_, ?_, fun h => absurd hc h⟩
      · rw [play_at hok (k := 1) rfl]
        show (tearF (doF f _) _ m, 1, 0) = _
        rw [a2, b3 m]; rfl
      · by_cases hm : tornL [255, 255] markL (bl m) = markL
        · exact Or.inl (by rw [hm]; rfl)
        · refine Or.inr fun h2 => ?_
          rw [bl_bs] at h2
          have := dec_body (r := r) ⟨by omega, hkr.2⟩ (m := tornL [255, 255] markL (bl m)) (tornL_length _ _ _)
          rw [if_neg hm, (stOf_two h2).1] at this
          exact absurd this (by decide)
  · rw [if_neg hc]
    refine ⟨bs (encL r), by rw [bs_size, encL_length], ?_, Or.inl rfl, fun _ => rfl⟩
    rw [play_all hok (by show cut < 0 ∨ ((2 : Nat) : Int) ≤ cut; omega)]
    rw [runF, runF, runF, a2, b2]; rfl

/-- The ops of a fresh bank. -/
def freshO (o : Int) (g seq data : Nat) : List PwOp :=
  [⟨2, o, 0, ⟨#[]⟩⟩, ⟨1, o, 24, bs (bodyL ⟨3, seq, data⟩)⟩, ⟨1, o, 46, bs markL⟩, ⟨1, o, 0, bs (bodyL ⟨1, g, 0⟩)⟩, ⟨1, o, 22, bs markL⟩]
def killO (o : Int) : PwOp := ⟨1, o, 0, bs [0, 0]⟩
def freshL (o : Int) (kill : Bool) (g seq data : Nat) : List PwOp := if kill = true then killO o :: freshO o g seq data else freshO o g seq data
theorem freshL_length (o : Int) (kill : Bool) (g seq data : Nat) : (freshL o kill g seq data).length = if kill = true then 6 else 5 := by
  unfold freshL; split <;> rfl
/-- A bank of z bytes that is fresh. -/
def freshB (z g seq data : Nat) : ByteArray := putT (putT (blankT z) 1 (bs (encL ⟨3, seq, data⟩))) 0 (bs (encL ⟨1, g, 0⟩))
/-- A header that is not good, and will not be by bytes that become blank. -/
def dead (l : List UInt8) : Prop := gd l 0 0 ≠ 165 ∨ gd l 1 0 ≠ 1 ∨ gd l 22 0 ≠ 90 ∨ gd l 23 0 ≠ 60
def deadH (s : ByteArray) : Prop := dead (slL s 0)
theorem dead_not {l : List UInt8} (h : dead l) : stOf l 0 ≠ 2 := fun h2 => by
  obtain ⟨h3, h4⟩ := stOf_two h2
  obtain ⟨z1, z2, z3, z4, z5, z6⟩ := dec_zero h3
  have hk := h4.2 rfl
  unfold decR at hk
  rw [if_pos h3] at hk
  have hk2 : ((gd l 1 0).toNat : Int) = 1 := hk
  have k1 : gd l 1 0 = 1 := by apply UInt8.toNat_inj.1; have : (1 : UInt8).toNat = 1 := rfl; omega
  have e : ∀ j, gd l (22 + j) 0 = gd (l.drop 22) j 0 := fun j => by unfold gd; rw [List.getElem?_drop]
  have k2 : gd l 22 0 = 90 := by rw [e 0, z6]; rfl
  have k3 : gd l 23 0 = 60 := by rw [e 1, z6]; rfl
  rcases h with h | h | h | h
  · exact h z2
  · exact h k1
  · exact h k2
  · exact h k3
theorem deadH_not {s : ByteArray} (h : deadH s) : genE s ≠ 0 := fun h0 => by
  have h1 := gen_state.1 h0
  by_cases hz : slotsF s.size ≠ 0
  · have h2 := state_slL hz (k := 0) (by have := slots_le (s.size : Int); omega)
    rw [show stateF s 0 = stateF s ((0 : Nat) : Int) from rfl, h2] at h1
    exact dead_not h h1
  · have e : slotT s 0 = ⟨#[]⟩ := slotT_out (fun x => hz x.1)
    rw [stateF, e] at h1
    exact absurd h1 (by decide)
theorem deadH_sound {s : ByteArray} (h : deadH s) : soundB s = false := by
  cases hs : soundB s
  · rfl
  · exact absurd (sound_parts hs).1 (deadH_not h)
theorem gd_slL (s : ByteArray) (i : Nat) (h : i < 24) (d : UInt8) : gd (slL s 0) i d = gd (bl s) i d := by
  unfold slL gd
  rw [show 24 * 0 = 0 from rfl, List.drop_zero, List.getElem?_take, if_pos h]
theorem deadH_era {s : ByteArray} (m : ByteArray) (h : deadH s) (hz : 24 ≤ s.size) : deadH (eraT s m) := by
  have e : ∀ i, i < 24 → gd (slL (eraT s m) 0) i 0 = eraB (gd (slL s 0) i 0) (gd (bl m) i 0) := fun i hi => by
    rw [gd_slL _ i hi, gd_slL _ i hi, gd_eraT s m i (by omega)]
  have k : ∀ (i : Nat) (x : UInt8), i < 24 → x ≠ 255 → gd (slL s 0) i 0 ≠ x → gd (slL (eraT s m) 0) i 0 ≠ x := fun i x hi hx hg => by
    rw [e i hi]; unfold eraB; split
    · exact fun h => hx h.symm
    · exact hg
  rcases h with h | h | h | h
  · exact Or.inl (k 0 165 (by decide) (by decide) h)
  · exact Or.inr (Or.inl (k 1 1 (by decide) (by decide) h))
  · exact Or.inr (Or.inr (Or.inl (k 22 90 (by decide) (by decide) h)))
  · exact Or.inr (Or.inr (Or.inr (k 23 60 (by decide) (by decide) h)))
theorem deadH_rep {s : ByteArray} (h : slL s 0 = List.replicate 24 255) : deadH s := Or.inl (by rw [h]; decide)
theorem slL_blank {z j : Nat} (h : 24 * j + 24 ≤ z) : slL (blankT z) j = List.replicate 24 255 := by
  rw [slL, bl_blank, rep_drop, rep_take, Nat.min_eq_left (by omega)]
/-- The header's place, killed or torn as it is killed. -/
theorem kill_dead {l : List UInt8} (hl : l.length = 24) (h : stOf l 0 = 2) (m : List UInt8) :
    dead (tornL (l.take 2) [0, 0] m ++ l.drop 2) ∨ tornL (l.take 2) [0, 0] m ++ l.drop 2 = l := by
  obtain ⟨h3, h4⟩ := stOf_two h
  obtain ⟨z1, z2, z3, z4, z5, z6⟩ := dec_zero h3
  have hk := h4.2 rfl
  unfold decR at hk
  rw [if_pos h3] at hk
  have hk2 : ((gd l 1 0).toNat : Int) = 1 := hk
  have k1 : gd l 1 0 = 1 := by apply UInt8.toNat_inj.1; have : (1 : UInt8).toNat = 1 := rfl; omega
  have hlt : (l.take 2).length = 2 := by rw [List.length_take]; omega
  have htt : (tornL (l.take 2) [0, 0] m).length = 2 := by rw [tornL_length, hlt]
  generalize tornL (l.take 2) [0, 0] m = t at *
  match t, htt with
  | [x, y], _ =>
    by_cases hx : x = 165
    · by_cases hy : y = 1
      · right
        subst hx; subst hy
        match l, hl, z2, k1 with
        | a :: b :: l', _, z2, k1 =>
          have ha : a = 165 := z2
          have hb : b = 1 := k1
          rw [ha, hb]; rfl
      · exact Or.inl (Or.inr (Or.inl hy))
    · exact Or.inl (Or.inl hx)
/-- Of a fresh bank's ops, from the erase on: what becomes of each one. -/
theorem fresh_tears (f : Fl) {o : Int} (ho : o = 0 ∨ o = 1) (u : ByteArray) (e : Int) (g seq data : Nat) (hu : 48 ≤ u.size) (he : e < f.lim) :
    okRun (upd f o u e) (freshO o g seq data) ∧ runF (upd f o u e) (freshO o g seq data) = upd f o (freshB u.size g seq data) (e + 1) ∧
    ∀ (c : Nat) (p : PwOp), (freshO o g seq data)[c]? = some p → ∀ m, ∃ v, tearF (runF (upd f o u e) ((freshO o g seq data).take c)) p m = upd f o v (e + 1) ∧ v.size = u.size ∧ (v = freshB u.size g seq data ∨ deadH v ∨ v = eraT u m) := by
  obtain ⟨a1, a2, a3⟩ := erase_upd f ho u e he
  have zB : (blankT u.size).size = u.size := blankT_len _
  have h24 : ∀ r : Rec, (bs (bodyL r ++ [255, 255])).size = 24 := fun r => by rw [bs_size, List.length_append, bodyL_length]; rfl
  have h24e : ∀ r : Rec, (bs (encL r)).size = 24 := fun r => by rw [bs_size, encL_length]
  have h24t : ∀ (l : List UInt8), l.length = 22 → (bs (l ++ [255, 255])).size = 24 := fun l hl => by rw [bs_size, List.length_append, hl]; rfl
  have h24m : ∀ (r : Rec) (l : List UInt8), l.length = 2 → (bs (bodyL r ++ l)).size = 24 := fun r l hl => by rw [bs_size, List.length_append, bodyL_length, hl]
  have fit1 : 24 * 1 + 24 ≤ (blankT u.size).size := by omega
  have fit0 : 24 * 0 + 24 ≤ (blankT u.size).size := by omega
  obtain ⟨b1, b2, b3⟩ := body_upd f ho (blankT u.size) (e + 1) (j := 1) fit1 (slL_blank (by omega)) ⟨3, seq, data⟩ (q := 24) (by omega)
  obtain ⟨c1, c2, c3⟩ := mark_upd f ho (putT (blankT u.size) 1 (bs (bodyL ⟨3, seq, data⟩ ++ [255, 255]))) (e + 1) (j := 1) (by rw [putT_size fit1 (h24 _)]; exact fit1) ⟨3, seq, data⟩ (by rw [slL_put fit1 (h24 _), bl_bs]) (q := 46) (by omega)
  rw [put_put fit1 (h24 _)] at c2
  simp only [put_put fit1 (h24 ⟨3, seq, data⟩)] at c3
  have z3 := putT_size (s := blankT u.size) fit1 (h24e ⟨3, seq, data⟩)
  have hb0 : slL (putT (blankT u.size) 1 (bs (encL ⟨3, seq, data⟩))) 0 = List.replicate 24 255 := by rw [slL_put_ne fit1 (h24e _) (by decide)]; exact slL_blank (by omega)
  have k1 : ∀ t : ByteArray, t.size = 24 → deadH (putT (blankT u.size) 1 t) ∧ (putT (blankT u.size) 1 t).size = u.size := fun t ht => ⟨deadH_rep (by rw [slL_put_ne fit1 ht (by decide)]; exact slL_blank (by omega)), by rw [putT_size fit1 ht, zB]⟩
  generalize putT (blankT u.size) 1 (bs (bodyL ⟨3, seq, data⟩ ++ [255, 255])) = u1 at *
  unfold freshB
  generalize hu2 : putT (blankT u.size) 1 (bs (encL ⟨3, seq, data⟩)) = u2 at *
  have fit2 : 24 * 0 + 24 ≤ u2.size := by omega
  obtain ⟨d1, d2, d3⟩ := body_upd f ho u2 (e + 1) (j := 0) fit2 hb0 ⟨1, g, 0⟩ (q := 0) (by omega)
  obtain ⟨e1, e2, e3⟩ := mark_upd f ho (putT u2 0 (bs (bodyL ⟨1, g, 0⟩ ++ [255, 255]))) (e + 1) (j := 0) (by rw [putT_size fit2 (h24 _)]; exact fit2) ⟨1, g, 0⟩ (by rw [slL_put fit2 (h24 _), bl_bs]) (q := 22) (by omega)
  rw [put_put fit2 (h24 _)] at e2
  simp only [put_put fit2 (h24 ⟨1, g, 0⟩)] at e3
  generalize putT u2 0 (bs (bodyL ⟨1, g, 0⟩ ++ [255, 255])) = u3 at *
  have k0 : ∀ t : ByteArray, t.size = 24 → dead (bl t) → deadH (putT u2 0 t) := fun t ht h => by unfold deadH; rw [slL_put fit2 ht]; exact h
  have z0 : ∀ t : ByteArray, t.size = 24 → (putT u2 0 t).size = u.size := fun t ht => by rw [putT_size fit2 ht, z3, zB]
  refine ⟨⟨a1, by rw [a2]; exact b1, by rw [a2, b2]; exact c1, by rw [a2, b2, c2]; exact d1, by rw [a2, b2, c2, d2]; exact e1, trivial⟩, by unfold freshO; rw [runF, runF, runF, runF, runF, runF, a2, b2, c2, d2, e2], fun c p hp m => ?_⟩
  match c with
  | 0 =>
    cases hp
    exact ⟨_, a3 m, eraT_size _ _, Or.inr (Or.inr rfl)⟩
  | 1 =>
    cases hp
    have ht := h24t (tornL (List.replicate 22 255) (bodyL ⟨3, seq, data⟩) (bl m)) (by rw [tornL_length, List.length_replicate])
    refine ⟨_, ?_, (k1 _ ht).2, Or.inr (Or.inl (k1 _ ht).1)⟩
    show tearF (doF _ _) _ m = _
    rw [a2, b3 m]
  | 2 =>
    cases hp
    have ht := h24m ⟨3, seq, data⟩ (tornL [255, 255] markL (bl m)) (tornL_length _ _ _)
    refine ⟨_, ?_, (k1 _ ht).2, Or.inr (Or.inl (k1 _ ht).1)⟩
    show tearF (doF (doF _ _) _) _ m = _
    rw [a2, b2, c3 m]
  | 3 =>
    cases hp
    have hl : (tornL (List.replicate 22 255) (bodyL ⟨1, g, 0⟩) (bl m)).length = 22 := by rw [tornL_length, List.length_replicate]
    have ht := h24t _ hl
    refine ⟨_, ?_, z0 _ ht, Or.inr (Or.inl (k0 _ ht (Or.inr (Or.inr (Or.inl ?_)))))⟩
    · show tearF (doF (doF (doF _ _) _) _) _ m = _
      rw [a2, b2, c2, d3 m]
    · rw [bl_bs]; unfold gd
      rw [List.getElem?_append_right (by omega), hl]; decide
  | 4 =>
    cases hp
    have hl := tornL_length [255, 255] markL (bl m)
    have ht := h24m ⟨1, g, 0⟩ _ hl
    by_cases hm : tornL [255, 255] markL (bl m) = markL
    · refine ⟨_, ?_, z0 _ ht, Or.inl (by rw [hm]; rfl)⟩
      show tearF (doF (doF (doF (doF _ _) _) _) _) _ m = _
      rw [a2, b2, c2, d2, e3 m]
    · refine ⟨_, ?_, z0 _ ht, Or.inr (Or.inl (k0 _ ht (Or.inr (Or.inr ?_))))⟩
      · show tearF (doF (doF (doF (doF _ _) _) _) _) _ m = _
        rw [a2, b2, c2, d2, e3 m]
      · rw [bl_bs]; unfold gd
        rw [List.getElem?_append_right (by rw [bodyL_length]; omega), List.getElem?_append_right (by rw [bodyL_length]; omega), bodyL_length]
        generalize tornL [255, 255] markL (bl m) = t at *
        match t, hl with
        | [x, y], _ =>
          by_cases hx : x = 90
          · right; intro hy; exact hm (by rw [hx, show y = 60 from hy]; rfl)
          · left; exact hx
  | c + 5 => cases hp
/-- Of a fresh bank that is cut anywhere. -/
theorem fresh_play (f : Fl) {o : Int} (ho : o = 0 ∨ o = 1) (kill : Bool) (g seq data : Nat) (hz : 48 ≤ (f.bank o).size) (he : f.erases o < f.lim) (cut : Int) (m : ByteArray) :
    ∃ (v : ByteArray) (e : Int), playR f (freshL o kill g seq data) cut m = (upd f o v e, (if 0 ≤ cut ∧ cut < (freshL o kill g seq data).length then cut.toNat else (freshL o kill g seq data).length), 0) ∧ v.size = (f.bank o).size ∧ (e = f.erases o ∨ e = f.erases o + 1) ∧
      (¬ (0 ≤ cut ∧ cut < (freshL o kill g seq data).length) → v = freshB (f.bank o).size g seq data ∧ e = f.erases o + 1) ∧
      ((kill = true → stOf (slL (f.bank o) 0) 0 = 2) → (kill = false → deadH (f.bank o)) → (v = freshB (f.bank o).size g seq data ∧ e = f.erases o + 1) ∨ deadH v ∨ (v = f.bank o ∧ e = f.erases o)) := by
  have hself := upd_self f o
  cases kill
  · -- no kill
    show ∃ v e, playR f (freshO o g seq data) cut m = (upd f o v e, (if 0 ≤ cut ∧ cut < ((5 : Nat) : Int) then cut.toNat else 5), 0) ∧ _ ∧ _ ∧ (¬ (0 ≤ cut ∧ cut < ((5 : Nat) : Int)) → _) ∧ _
    obtain ⟨t1, t2, t3⟩ := fresh_tears f ho (f.bank o) (f.erases o) g seq data hz he
    rw [hself] at t1 t2
    simp only [hself] at t3
    by_cases hc : 0 ≤ cut ∧ cut < ((5 : Nat) : Int)
    · rw [if_pos hc]
      obtain ⟨c, rfl⟩ : ∃ c : Nat, cut = (c : Int) := ⟨cut.toNat, by omega⟩
      obtain ⟨p, hp⟩ : ∃ p, (freshO o g seq data)[c]? = some p := ⟨_, List.getElem?_eq_getElem (by show c < 5; omega)⟩
      obtain ⟨v, hv, hvz, hvc⟩ := t3 c p hp m
      refine ⟨v, _, by rw [play_at t1 hp, hv]; rfl, hvz, Or.inr rfl, fun h => absurd hc h, fun _ hd => ?_⟩
      rcases hvc with h | h | h
      · exact Or.inl ⟨h, rfl⟩
      · exact Or.inr (Or.inl h)
      · exact Or.inr (Or.inl (by rw [h]; exact deadH_era m (hd rfl) (by omega)))
    · rw [if_neg hc]
      refine ⟨_, _, by rw [play_all t1 (by show cut < 0 ∨ ((5 : Nat) : Int) ≤ cut; omega), t2]; rfl, ?_, Or.inr rfl, fun _ => ⟨rfl, rfl⟩, fun _ _ => Or.inl ⟨rfl, rfl⟩⟩
      have f1 : 24 * 1 + 24 ≤ (blankT (f.bank o).size).size := by rw [blankT_len]; omega
      have q1 := putT_size (t := bs (encL ⟨3, seq, data⟩)) f1 (by rw [bs_size, encL_length])
      unfold freshB
      rw [putT_size (by rw [q1, blankT_len]; omega) (by rw [bs_size, encL_length]), q1, blankT_len]
  · -- kill
    show ∃ v e, playR f (killO o :: freshO o g seq data) cut m = (upd f o v e, (if 0 ≤ cut ∧ cut < ((6 : Nat) : Int) then cut.toNat else 6), 0) ∧ _ ∧ _ ∧ (¬ (0 ≤ cut ∧ cut < ((6 : Nat) : Int)) → _) ∧ _
    obtain ⟨k1, k2, k3⟩ := prog_upd f ho (f.bank o) (f.erases o) (d := bs [0, 0]) (j := 0) (a := 0) (by omega) (by show 0 + 2 ≤ 24; omega) rfl rfl (q := 0) (by omega)
    rw [hself] at k1 k2
    simp only [hself] at k3
    have hl := slL_length (s := f.bank o) (j := 0) (by omega)
    have hx : ∀ t : List UInt8, t.length = 2 → (bs (t ++ (slL (f.bank o) 0).drop 2)).size = 24 := fun t ht => by rw [bs_size, List.length_append, List.length_drop, hl, ht]
    have hl2 : ((slL (f.bank o) 0).take 2).length = 2 := by rw [List.length_take, hl]; rfl
    have k2' : doF f (killO o) = upd f o (putT (f.bank o) 0 (bs (andL ((slL (f.bank o) 0).take 2) [0, 0] ++ (slL (f.bank o) 0).drop 2))) (f.erases o) := k2
    have k3' : ∀ m, tearF f (killO o) m = upd f o (putT (f.bank o) 0 (bs (tornL ((slL (f.bank o) 0).take 2) [0, 0] (bl m) ++ (slL (f.bank o) 0).drop 2))) (f.erases o) := k3
    have za := hx (andL ((slL (f.bank o) 0).take 2) [0, 0]) (by rw [andL_length, hl2])
    have hdead : deadH (putT (f.bank o) 0 (bs (andL ((slL (f.bank o) 0).take 2) [0, 0] ++ (slL (f.bank o) 0).drop 2))) := by
      unfold deadH
      rw [slL_put (by omega) za, bl_bs]
      left
      have hla : (andL ((slL (f.bank o) 0).take 2) [0, 0]).length = 2 := by rw [andL_length, hl2]
      have : gd (andL ((slL (f.bank o) 0).take 2) [0, 0] ++ (slL (f.bank o) 0).drop 2) 0 0 = gd (andL ((slL (f.bank o) 0).take 2) [0, 0]) 0 0 := by unfold gd; rw [List.getElem?_append_left (by omega)]
      rw [this]
      generalize (slL (f.bank o) 0).take 2 = w at *
      match w, hl2 with
      | [x, y], _ =>
        show band x 0 ≠ 165
        rw [show band x 0 = 0 from by apply ext8; intro b hb; simp only [tB_band]; rw [show tB 0 b = false from by unfold tB; simp]; cases tB x b <;> rfl]
        decide
    have zk := putT_size (s := f.bank o) (j := 0) (by omega) za
    generalize putT (f.bank o) 0 (bs (andL ((slL (f.bank o) 0).take 2) [0, 0] ++ (slL (f.bank o) 0).drop 2)) = u at *
    obtain ⟨t1, t2, t3⟩ := fresh_tears f ho u (f.erases o) g seq data (by omega) he
    have hok : okRun f (killO o :: freshO o g seq data) := ⟨k1, by rw [k2']; exact t1⟩
    rw [zk] at t2 t3
    by_cases hc : 0 ≤ cut ∧ cut < ((6 : Nat) : Int)
    · rw [if_pos hc]
      obtain ⟨c, rfl⟩ : ∃ c : Nat, cut = (c : Int) := ⟨cut.toNat, by omega⟩
      match c with
      | 0 =>
        refine ⟨_, _, by rw [play_at hok (k := 0) rfl]; show (tearF f (killO o) m, 0, 0) = _; rw [k3' m]; rfl, ?_, Or.inl rfl, fun h => absurd hc h, fun hg _ => ?_⟩
        · rw [putT_size (by omega) (hx _ (by rw [tornL_length, hl2]))]
        · rcases kill_dead hl (hg rfl) (bl m) with h | h
          · refine Or.inr (Or.inl ?_)
            unfold deadH
            rw [slL_put (by omega) (hx _ (by rw [tornL_length, hl2])), bl_bs]; exact h
          · refine Or.inr (Or.inr ⟨?_, rfl⟩)
            rw [h]; exact put_self _ _ _ (bl_bs _)
      | c + 1 =>
        obtain ⟨p, hp⟩ : ∃ p, (freshO o g seq data)[c]? = some p := ⟨_, List.getElem?_eq_getElem (by show c < 5; omega)⟩
        obtain ⟨v, hv, hvz, hvc⟩ := t3 c p hp m
        refine ⟨v, _, by rw [play_at hok (k := c + 1) (by simpa using hp), List.take_succ_cons, runF, k2', hv]; rfl, hvz, Or.inr rfl, fun h => absurd hc h, fun _ _ => ?_⟩
        rcases hvc with h | h | h
        · exact Or.inl ⟨h, rfl⟩
        · exact Or.inr (Or.inl h)
        · exact Or.inr (Or.inl (by rw [h]; exact deadH_era m hdead (by omega)))
    · rw [if_neg hc]
      refine ⟨_, _, by rw [play_all hok (by show cut < 0 ∨ ((6 : Nat) : Int) ≤ cut; omega), runF, k2', t2]; rfl, ?_, Or.inr rfl, fun _ => ⟨rfl, rfl⟩, fun _ _ => Or.inl ⟨rfl, rfl⟩⟩
      have f1 : 24 * 1 + 24 ≤ (blankT (f.bank o).size).size := by rw [blankT_len]; omega
      have q1 := putT_size (t := bs (encL ⟨3, seq, data⟩)) f1 (by rw [bs_size, encL_length])
      unfold freshB
      rw [putT_size (by rw [q1, blankT_len]; omega) (by rw [bs_size, encL_length]), q1, blankT_len]
end Go.Proofs.Ytejhbamlnkhfcaa

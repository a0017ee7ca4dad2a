/- What plans are, and what is read behind them, on plain data; plain laws: no statement is proved here. -/
import Derived.Test.YthmpjoiifglbjaaGreatPower
import Derived.Test.YthmpjoiifglbjaaGreatPlain
namespace Go.Proofs.YthmpjoiifglbjaaGreat
set_option linter.unusedVariables false

/-- A bank whose place j holds other bytes; the bytes of a place. -/
def putT (s : ByteArray) (j : Nat) (t : ByteArray) : ByteArray := s.extract 0 (24 * j) ++ t ++ s.extract (24 * j + 24) s.size
def slL (s : ByteArray) (j : Nat) : List UInt8 := ((bl s).drop (24 * j)).take 24
theorem bl_putT (s : ByteArray) (j : Nat) (t : ByteArray) : bl (putT s j t) = (bl s).take (24 * j) ++ (bl t ++ (bl s).drop (24 * j + 24)) := by
  rw [putT, bl_append, bl_append, bl_extract, bl_extract, List.drop_zero, List.take_of_length_le (l := bl s) (i := s.size) (by rw [bl_length]; exact Nat.le_refl _), List.append_assoc]
theorem putT_size {s : ByteArray} {j : Nat} {t : ByteArray} (hs : 24 * j + 24 ≤ s.size) (ht : t.size = 24) : (putT s j t).size = s.size := by
  unfold putT; simp; omega
theorem slL_length {s : ByteArray} {j : Nat} (hs : 24 * j + 24 ≤ s.size) : (slL s j).length = 24 := by
  rw [slL, List.length_take, List.length_drop, bl_length]; omega
theorem bl_parts (s : ByteArray) (j : Nat) : bl s = (bl s).take (24 * j) ++ (slL s j ++ (bl s).drop (24 * j + 24)) := by
  unfold slL
  rw [show (bl s).drop (24 * j + 24) = ((bl s).drop (24 * j)).drop 24 from by rw [List.drop_drop], List.take_append_drop, List.take_append_drop]
theorem put_self (s : ByteArray) (j : Nat) (t : ByteArray) (h : bl t = slL s j) : putT s j t = s := by
  apply bl_inj; rw [bl_putT, h, ← bl_parts]
theorem put_put {s : ByteArray} {j : Nat} {t u : ByteArray} (hs : 24 * j + 24 ≤ s.size) (ht : t.size = 24) : putT (putT s j t) j u = putT s j u := by
  apply bl_inj
  have h1 : ((bl s).take (24 * j)).length = 24 * j := by rw [List.length_take, bl_length]; omega
  have h2 : (bl t).length = 24 := by rw [bl_length, ht]
  rw [bl_putT, bl_putT, bl_putT]
  have e1 : ((bl s).take (24 * j) ++ (bl t ++ (bl s).drop (24 * j + 24))).take (24 * j) = (bl s).take (24 * j) := by
    rw [List.take_append_of_le_length (by omega), List.take_of_length_le (by omega)]
  have e2 : ((bl s).take (24 * j) ++ (bl t ++ (bl s).drop (24 * j + 24))).drop (24 * j + 24) = (bl s).drop (24 * j + 24) := by
    rw [← List.drop_drop, List.drop_left' h1, List.drop_left' h2]
  rw [e1, e2]
theorem slL_put {s : ByteArray} {j : Nat} {t : ByteArray} (hs : 24 * j + 24 ≤ s.size) (ht : t.size = 24) : slL (putT s j t) j = bl t := by
  have h1 : ((bl s).take (24 * j)).length = 24 * j := by rw [List.length_take, bl_length]; omega
  have h2 : (bl t).length = 24 := by rw [bl_length, ht]
  rw [slL, bl_putT, List.drop_left' h1, List.take_left' h2]
theorem slL_put_ne {s : ByteArray} {i j : Nat} {t : ByteArray} (hs : 24 * j + 24 ≤ s.size) (ht : t.size = 24) (hij : i ≠ j) : slL (putT s j t) i = slL s i := by
  have h1 : ((bl s).take (24 * j)).length = 24 * j := by rw [List.length_take, bl_length]; omega
  have h2 : (bl t).length = 24 := by rw [bl_length, ht]
  rcases Nat.lt_or_gt_of_ne hij with h | h
  · rw [slL, bl_putT, slL]
    rw [List.drop_append_of_le_length (by omega), List.take_append_of_le_length (by rw [List.length_drop]; omega), List.drop_take, List.take_take, Nat.min_eq_left (by omega)]
  · rw [slL, bl_putT, slL]
    rw [show 24 * i = 24 * j + (24 + (24 * i - 24 * j - 24)) from by omega, ← List.drop_drop, List.drop_left' h1, ← List.drop_drop, List.drop_left' h2, List.drop_drop]
    congr 2; omega
/-- Bytes laid within one place. -/
theorem ext_put {s x : ByteArray} {j a n : Nat} (hs : 24 * j + 24 ≤ s.size) (ha : a + n ≤ 24) :
    s.extract 0 (24 * j + a) ++ x ++ s.extract (24 * j + a + n) s.size = putT s j (bs ((slL s j).take a ++ (bl x ++ (slL s j).drop (a + n)))) := by
  apply bl_inj
  rw [bl_append, bl_append, bl_extract, bl_extract, List.drop_zero, List.take_of_length_le (l := bl s) (i := s.size) (by rw [bl_length]; exact Nat.le_refl _), bl_putT, bl_bs]
  have e1 : (bl s).take (24 * j + a) = (bl s).take (24 * j) ++ (slL s j).take a := by
    rw [List.take_add, slL, List.take_take, Nat.min_eq_left (by omega)]
  have e2 : (bl s).drop (24 * j + a + n) = (slL s j).drop (a + n) ++ (bl s).drop (24 * j + 24) := by
    have e3 : (bl s).drop (24 * j + 24) = ((bl s).drop (24 * j + (a + n))).drop (24 - (a + n)) := by rw [List.drop_drop]; congr 1; omega
    rw [e3, slL, List.drop_take, List.drop_drop, show 24 * j + a + n = 24 * j + (a + n) from by omega, List.take_append_drop]
  rw [e1, e2]
  simp only [List.append_assoc]
theorem ext_slL {s : ByteArray} {j a n : Nat} (ha : a + n ≤ 24) : bl (s.extract (24 * j + a) (24 * j + a + n)) = ((slL s j).drop a).take n := by
  rw [bl_extract, List.drop_take, show 24 * j + a + n - (24 * j + a) = n from by omega, slL, List.drop_take, List.drop_drop, List.take_take, Nat.min_eq_left (by omega)]
theorem spliceT_put {s d m : ByteArray} {j a : Nat} (hs : 24 * j + 24 ≤ s.size) (ha : a + d.size ≤ 24) :
    spliceT s (24 * j + a) d m = putT s j (bs ((slL s j).take a ++ (tornL (((slL s j).drop a).take d.size) (bl d) (bl m) ++ (slL s j).drop (a + d.size)))) := by
  rw [spliceT, ext_put hs ha, tornB, bl_bs, ext_slL ha]
theorem splice_put {s d : ByteArray} {j a : Nat} (hs : 24 * j + 24 ≤ s.size) (ha : a + d.size ≤ 24) :
    splice s (24 * j + a) d = putT s j (bs ((slL s j).take a ++ (andL (((slL s j).drop a).take d.size) (bl d) ++ (slL s j).drop (a + d.size)))) := by
  rw [splice, ext_put hs ha, andB, bl_bs, ext_slL ha]
theorem blank_andL {n : Nat} {d : List UInt8} (h : d.length = n) : andL (List.replicate n 255) d = d := by
  unfold andL
  rw [List.length_replicate]
  refine upto_eq_list h 0 fun i hi => ?_
  unfold andF
  rw [gd_replicate n i 255 0 hi, gd_low d i 255 0 (by omega)]
  apply ext8; intro b hb; simp only [tB_band, tB_255 b hb]; cases tB (gd d i 0) b <;> rfl
theorem dec_five {l : List UInt8} (h : decE l = 5) : l = List.replicate 24 255 := by
  unfold decE at h
  split at h
  · exact absurd h (by decide)
  · rename_i h1
    split at h
    · rename_i h2
      refine List.eq_replicate_iff.2 ⟨by omega, fun b hb => ?_⟩
      have := List.all_eq_true.1 h2 b hb
      simpa using this
    · repeat' (split at h <;> first | exact absurd h (by decide) | skip)
theorem stOf_zero {l : List UInt8} {i : Int} (h : stOf l i = 0) : l = List.replicate 24 255 := by
  unfold stOf at h
  split at h
  · rename_i h5; exact dec_five h5
  · split at h <;> exact absurd h (by decide)
theorem stOf_two {l : List UInt8} {i : Int} (h : stOf l i = 2) : decE l = 0 ∧ ((decR l).kind = 1 ↔ i = 0) := by
  unfold stOf at h
  split at h
  · exact absurd h (by decide)
  · split at h
    · rename_i h2; exact h2
    · exact absurd h (by decide)
theorem slotT_slL {s : ByteArray} {k : Nat} (h : slotsF s.size ≠ 0) (hk : (k : Int) ≤ slotsF s.size) : bl (slotT s (k : Int)) = slL s k := bl_slotT h hk
theorem state_slL {s : ByteArray} {k : Nat} (h : slotsF s.size ≠ 0) (hk : (k : Int) ≤ slotsF s.size) : stateF s (k : Int) = stOf (slL s k) (k : Int) := by
  rw [stateF, slotT_slL h hk]
/-- What a bank says behind a place that was blank, and next. -/
theorem read_put {s t : ByteArray} {i : Nat} {r : Rec} (hs : soundB s = true) (hn : nextF s = i + 1) (ht : t.size = 24) (hr : r.ok) (hk : 2 ≤ r.kind ∧ r.kind ≤ 3) (hq : (lastR s).seq ≤ r.seq)
    (hc : t = bs (encL r) ∨ stOf (bl t) ((i : Int) + 1) ≠ 2) :
    soundB (putT s (i + 1) t) = true ∧ genN (putT s (i + 1) t) = genN s ∧ lastR (putT s (i + 1) t) = (if t = bs (encL r) then r else lastR s) ∧ slotsF (putT s (i + 1) t).size = slotsF s.size := by
  have hz := sound_slots hs
  obtain ⟨hle, hb, _⟩ := next_all hn
  have hN := slotsN_eq s
  have hsz := slots_size hz
  have hfit : 24 * (i + 1) + 24 ≤ s.size := by omega
  have hsame : slotsF (putT s (i + 1) t).size = slotsF s.size := by rw [putT_size hfit ht]
  by_cases h0 : stOf (bl t) ((i : Int) + 1) = 0
  · have hrep := stOf_zero h0
    have hbl : slL s (i + 1) = List.replicate 24 255 := by
      have h1 := hb i (Nat.le_refl _) (by omega)
      rw [show (i : Int) + 1 = ((i + 1 : Nat) : Int) from by omega, state_slL hz (by omega)] at h1
      exact stOf_zero h1
    have hne : t ≠ bs (encL r) := fun e => by
      have := st_enc hr hk (i := (i : Int) + 1) (by omega)
      rw [e, bl_bs, this] at h0; exact absurd h0 (by decide)
    rw [put_self s (i + 1) t (by rw [hrep, hbl]), if_neg hne]
    exact ⟨hs, rfl, rfl, rfl⟩
  · obtain ⟨hg, hl⟩ := sound_parts hs
    have hp := scan_put (s := s) (t := t) hn ht h0
    dsimp only at hp
    rw [show s.extract 0 (24 * (i + 1)) ++ t ++ s.extract (24 * (i + 1) + 24) s.size = putT s (i + 1) t from rfl] at hp
    obtain ⟨p1, q2, q3, p4, p5, q6⟩ := hp
    have hgen : genN (putT s (i + 1) t) = genN s := by unfold genN; rw [q2, q3]
    have hge : genE (putT s (i + 1) t) = 0 := gen_state.2 (q2.trans (gen_state.1 hg))
    obtain ⟨b, hb1⟩ : ∃ b, lastG s (slotsN s) = some b := by
      unfold lastE at hl
      cases h : lastG s (slotsN s) with
      | none => rw [if_pos h] at hl; cases hl
      | some b => exact ⟨b, rfl⟩
    have hbr : lastR s = b := by unfold lastR; rw [hb1]; rfl
    by_cases he : t = bs (encL r)
    · have hst : stOf (bl t) ((i : Int) + 1) = 2 := by rw [he, bl_bs]; exact st_enc hr hk (by omega)
      have hd : decR (bl t) = r := by rw [he, bl_bs]; exact decR_body hr ⟨by omega, hk.2⟩
      rw [if_pos ⟨hst, fun c hc => by rw [hb1] at hc; cases hc; rw [hd, ← hbr]; exact hq⟩, hd] at q6
      refine ⟨sound_mk hge ?_, hgen, ?_, hsame⟩
      · unfold lastE; rw [q6]; rfl
      · rw [if_pos he]; unfold lastR; rw [q6]; rfl
    · have hst : ¬ stOf (bl t) ((i : Int) + 1) = 2 := hc.resolve_left he
      rw [if_neg (fun x => hst x.1)] at q6
      refine ⟨sound_mk hge ?_, hgen, ?_, hsame⟩
      · unfold lastE; rw [q6, hb1]; rfl
      · rw [if_neg he]; unfold lastR; rw [q6]
/-- Ops that all go well, one behind the other. -/
def okRun : Fl → List PwOp → Prop
  | _, [] => True
  | f, o :: l => doErr f o = 0 ∧ okRun (doF f o) l
def runF : Fl → List PwOp → Fl
  | f, [] => f
  | f, o :: l => runF (doF f o) l
theorem playG_run (cut : Int) (m : ByteArray) : ∀ (l : List PwOp) (f : Fl) (i : Nat), okRun f l → (cut < i ∨ (i : Int) + l.length ≤ cut) → playG cut m l f i = (runF f l, i + l.length, 0)
  | [], f, i, _, _ => rfl
  | o :: l, f, i, h, hc => by
    have hlen : (o :: l).length = l.length + 1 := rfl
    rw [playG, if_neg (by omega), if_pos h.1, playG_run cut m l (doF f o) (i + 1) h.2 (by omega), runF, hlen, show i + 1 + l.length = i + (l.length + 1) from by omega]
theorem playG_cut (m : ByteArray) : ∀ (l : List PwOp) (f : Fl) (i k : Nat) (o : PwOp), okRun f l → l[k]? = some o → playG ((i + k : Nat) : Int) m l f i = (tearF (runF f (l.take k)) o m, i + k, 0)
  | [], f, i, k, o, _, h => by cases h
  | a :: l, f, i, 0, o, ho, h => by
    cases h
    rw [playG, if_pos (by omega), ho.1]; rfl
  | a :: l, f, i, k + 1, o, ho, h => by
    rw [playG, if_neg (by omega), if_pos ho.1, show i + (k + 1) = i + 1 + k from by omega, playG_cut m l (doF f a) (i + 1) k o ho.2 (by simpa using h)]
    rfl
theorem play_all {f : Fl} {l : List PwOp} {cut : Int} {m : ByteArray} (h : okRun f l) (hc : cut < 0 ∨ (l.length : Int) ≤ cut) : playR f l cut m = (runF f l, l.length, 0) := by
  have := playG_run cut m l f 0 h (by omega)
  rw [Nat.zero_add] at this; exact this
theorem play_at {f : Fl} {l : List PwOp} {k : Nat} {o : PwOp} {m : ByteArray} (h : okRun f l) (hk : l[k]? = some o) : playR f l (k : Int) m = (tearF (runF f (l.take k)) o m, k, 0) := by
  have := playG_cut m l f 0 k o h hk
  rw [Nat.zero_add] at this; exact this
end Go.Proofs.YthmpjoiifglbjaaGreat
namespace Go.Proofs.YthmpjoiifglbjaaGreat
set_option linter.unusedVariables false

/-- A flash of which one bank holds other bytes, and has another count. -/
def upd (f : Fl) (k : Int) (u : ByteArray) (e : Int) : Fl := if k = 0 then ⟨u, f.b1, e, f.e1, f.lim⟩ else ⟨f.b0, u, f.e0, e, f.lim⟩
theorem upd_self (f : Fl) (k : Int) : upd f k (f.bank k) (f.erases k) = f := by
  unfold upd Fl.bank Fl.erases; split <;> rfl
theorem upd_upd (f : Fl) (k : Int) (u v : ByteArray) (e d : Int) : upd (upd f k u e) k v d = upd f k v d := by
  unfold upd; by_cases h : k = 0
  · simp only [if_pos h]
  · simp only [if_neg h]
theorem upd_bank (f : Fl) (k : Int) (u : ByteArray) (e : Int) : (upd f k u e).bank k = u := by
  unfold upd Fl.bank; by_cases h : k = 0
  · simp only [if_pos h]
  · simp only [if_neg h]
theorem upd_erases (f : Fl) (k : Int) (u : ByteArray) (e : Int) : (upd f k u e).erases k = e := by
  unfold upd Fl.erases; by_cases h : k = 0
  · simp only [if_pos h]
  · simp only [if_neg h]
theorem upd_lim (f : Fl) (k : Int) (u : ByteArray) (e : Int) : (upd f k u e).lim = f.lim := by
  unfold upd; split <;> rfl
theorem upd_other (f : Fl) {k : Int} (hk : k = 0 ∨ k = 1) (u : ByteArray) (e : Int) : (upd f k u e).bank (1 - k) = f.bank (1 - k) ∧ (upd f k u e).erases (1 - k) = f.erases (1 - k) := by
  rcases hk with rfl | rfl <;> exact ⟨rfl, rfl⟩
theorem set_upd (f : Fl) {k : Int} (u v : ByteArray) (e : Int) : (upd f k u e).setBank k v = upd f k v e := by
  unfold upd Fl.setBank; by_cases h : k = 0
  · simp only [if_pos h]
  · simp only [if_neg h]
theorem set_is_upd (f : Fl) (k : Int) (u : ByteArray) : f.setBank k u = upd f k u (f.erases k) := by
  unfold upd Fl.setBank Fl.erases; split <;> rfl
theorem erase_upd (f : Fl) {k : Int} (hk : k = 0 ∨ k = 1) (u : ByteArray) (e : Int) (he : e < f.lim) :
    doErr (upd f k u e) ⟨2, k, 0, ⟨#[]⟩⟩ = 0 ∧ doF (upd f k u e) ⟨2, k, 0, ⟨#[]⟩⟩ = upd f k (blankT u.size) (e + 1) ∧ ∀ m, tearF (upd f k u e) ⟨2, k, 0, ⟨#[]⟩⟩ m = upd f k (eraT u m) (e + 1) := by
  have h0 : eraseErr (upd f k u e) k = 0 := eraseErr_zero.2 ⟨hk, by rw [upd_erases, upd_lim]; exact he⟩
  have h1 : doErr (upd f k u e) ⟨2, k, 0, ⟨#[]⟩⟩ = 0 := (doErr_erase rfl).trans h0
  have h2 : doF (upd f k u e) ⟨2, k, 0, ⟨#[]⟩⟩ = upd f k (blankT u.size) (e + 1) := by
    rw [doF_erase rfl]
    show eraseF (upd f k u e) k = _
    rw [eraseF_banks h0]
    rcases hk with rfl | rfl <;> rfl
  refine ⟨h1, h2, fun m => ?_⟩
  rw [tearF_erase h1 rfl]
  show (eraseF (upd f k u e) k).setBank k (eraT ((upd f k u e).bank k) m) = _
  rw [upd_bank, show eraseF (upd f k u e) k = upd f k (blankT u.size) (e + 1) from (doF_erase rfl).symm.trans h2, set_upd]
theorem prog_upd (f : Fl) {k : Int} (hk : k = 0 ∨ k = 1) (u : ByteArray) (e : Int) {d : ByteArray} {j a : Nat} (hs : 24 * j + 24 ≤ u.size) (ha : a + d.size ≤ 24) (pa : a % 2 = 0) (pd : d.size % 2 = 0) {q : Int} (hq : q = 24 * (j : Int) + a) :
    doErr (upd f k u e) ⟨1, k, q, d⟩ = 0 ∧ doF (upd f k u e) ⟨1, k, q, d⟩ = upd f k (putT u j (bs ((slL u j).take a ++ (andL (((slL u j).drop a).take d.size) (bl d) ++ (slL u j).drop (a + d.size))))) e ∧
    ∀ m, tearF (upd f k u e) ⟨1, k, q, d⟩ m = upd f k (putT u j (bs ((slL u j).take a ++ (tornL (((slL u j).drop a).take d.size) (bl d) (bl m) ++ (slL u j).drop (a + d.size))))) e := by
  have hb := upd_bank f k u e
  have h0 : progErr (upd f k u e) k q d = 0 := by
    have hr : readErr (upd f k u e) k q d.size = 0 := readErr_zero.2 ⟨hk, by omega, by omega, by rw [hb]; omega⟩
    unfold progErr
    rw [if_neg (by rw [hr]; decide), if_neg (by omega)]
  have h1 : doErr (upd f k u e) ⟨1, k, q, d⟩ = 0 := (doErr_prog rfl).trans h0
  have hq2 : q.toNat = 24 * j + a := by omega
  refine ⟨h1, ?_, fun m => ?_⟩
  · rw [doF_prog rfl]
    show progF (upd f k u e) k q d = _
    unfold progF
    rw [if_pos h0, hb, hq2, splice_put hs ha, set_upd]
  · rw [tearF_prog h1 rfl]
    show (upd f k u e).setBank k (spliceT ((upd f k u e).bank k) q.toNat d m) = _
    rw [hb, hq2, spliceT_put hs ha, set_upd]

theorem rep_take (n k : Nat) : (List.replicate n (255 : UInt8)).take k = List.replicate (min k n) 255 := List.take_replicate
theorem rep_drop (n k : Nat) : (List.replicate n (255 : UInt8)).drop k = List.replicate (n - k) 255 := List.drop_replicate
theorem body_bs (r : Rec) : (bs (bodyL r)).size = 22 := by rw [bs_size, bodyL_length]
theorem mark_bs : (bs markL).size = 2 := rfl
/-- A record's body, and then its mark, at a place that is blank. -/
theorem body_upd (f : Fl) {k : Int} (hk : k = 0 ∨ k = 1) (u : ByteArray) (e : Int) {j : Nat} (hs : 24 * j + 24 ≤ u.size) (hb : slL u j = List.replicate 24 255) (r : Rec) {q : Int} (hq : q = 24 * (j : Int)) :
    doErr (upd f k u e) ⟨1, k, q, bs (bodyL r)⟩ = 0 ∧ doF (upd f k u e) ⟨1, k, q, bs (bodyL r)⟩ = upd f k (putT u j (bs (bodyL r ++ [255, 255]))) e ∧
    ∀ m, tearF (upd f k u e) ⟨1, k, q, bs (bodyL r)⟩ m = upd f k (putT u j (bs (tornL (List.replicate 22 255) (bodyL r) (bl m) ++ [255, 255]))) e := by
  obtain ⟨h1, h2, h3⟩ := prog_upd f hk u e (d := bs (bodyL r)) (j := j) (a := 0) hs (by rw [body_bs]; omega) rfl (by rw [body_bs]) (q := q) (by omega)
  rw [body_bs, bl_bs, hb] at h2 h3
  have e1 : ((List.replicate 24 (255 : UInt8)).drop 0).take 22 = List.replicate 22 255 := rfl
  have e2 : (List.replicate 24 (255 : UInt8)).drop (0 + 22) = [255, 255] := rfl
  rw [e1, e2, List.take_zero, List.nil_append] at h2
  rw [blank_andL (bodyL_length r)] at h2
  refine ⟨h1, h2, fun m => ?_⟩
  have := h3 m
  rwa [e1, e2, List.take_zero, List.nil_append] at this
theorem mark_upd (f : Fl) {k : Int} (hk : k = 0 ∨ k = 1) (u : ByteArray) (e : Int) {j : Nat} (hs : 24 * j + 24 ≤ u.size) (r : Rec) (hb : slL u j = bodyL r ++ [255, 255]) {q : Int} (hq : q = 24 * (j : Int) + 22) :
    doErr (upd f k u e) ⟨1, k, q, bs markL⟩ = 0 ∧ doF (upd f k u e) ⟨1, k, q, bs markL⟩ = upd f k (putT u j (bs (encL r))) e ∧
    ∀ m, tearF (upd f k u e) ⟨1, k, q, bs markL⟩ m = upd f k (putT u j (bs (bodyL r ++ tornL [255, 255] markL (bl m)))) e := by
  obtain ⟨h1, h2, h3⟩ := prog_upd f hk u e (d := bs markL) (j := j) (a := 22) hs (by rw [mark_bs]; omega) rfl (by rw [mark_bs]) (q := q) (by omega)
  rw [mark_bs, bl_bs, hb] at h2 h3
  have hl := bodyL_length r
  have e0 : (bodyL r ++ [255, 255]).take 22 = bodyL r := List.take_left' hl
  have e1 : ((bodyL r ++ [255, 255]).drop 22).take 2 = [255, 255] := by rw [List.drop_left' hl]; rfl
  have e2 : (bodyL r ++ [255, 255]).drop (22 + 2) = [] := List.drop_of_length_le (by rw [List.length_append, hl]; decide)
  rw [e0, e1, e2, List.append_nil, show andL [255, 255] markL = markL from rfl] at h2
  refine ⟨h1, h2, fun m => ?_⟩
  have := h3 m
  rwa [e0, e1, e2, List.append_nil] at this

/-- Of an append that is cut anywhere. -/
theorem append_play {f : Fl} {k : Int} {i : Nat} (hk : k = 0 ∨ k = 1) (hn : nextF (f.bank k) = i + 1) (r : Rec) (hr : r.ok) (hkr : 2 ≤ r.kind ∧ r.kind ≤ 3) (cut : Int) (m : ByteArray) :
    ∃ t : ByteArray, t.size = 24 ∧ playR f [⟨1, k, 24 * ((i : Int) + 1), bs (bodyL r)⟩, ⟨1, k, 24 * ((i : Int) + 1) + 22, bs markL⟩] cut m = (upd f k (putT (f.bank k) (i + 1) t) (f.erases k), (if 0 ≤ cut ∧ cut < 2 then cut.toNat else 2), 0) ∧
      (t = bs (encL r) ∨ stOf (bl t) ((i : Int) + 1) ≠ 2) ∧ (¬ (0 ≤ cut ∧ cut < 2) → t = bs (encL r)) := by
  obtain ⟨hle, hbl, _⟩ := next_all hn
  have hN := slotsN_eq (f.bank k)
  have hz : slotsF (f.bank k).size ≠ 0 := by omega
  have hsz := slots_size hz
  have hfit : 24 * (i + 1) + 24 ≤ (f.bank k).size := by omega
  have hb : slL (f.bank k) (i + 1) = List.replicate 24 255 := by
    have h1 := hbl i (Nat.le_refl _) (by omega)
    rw [show (i : Int) + 1 = ((i + 1 : Nat) : Int) from by omega, state_slL hz (by omega)] at h1
    exact stOf_zero h1
  have h24 : (bs (bodyL r ++ [255, 255])).size = 24 := by rw [bs_size, List.length_append, bodyL_length]; rfl
  have hself := upd_self f k
  obtain ⟨a1, a2, a3⟩ := body_upd f hk (f.bank k) (f.erases k) hfit hb r (q := 24 * ((i : Int) + 1)) (by omega)
  obtain ⟨b1, b2, b3⟩ := mark_upd f hk (putT (f.bank k) (i + 1) (bs (bodyL r ++ [255, 255]))) (f.erases k) (j := i + 1) (by rw [putT_size hfit h24]; exact hfit) r (by rw [slL_put hfit h24, bl_bs]) (q := 24 * ((i : Int) + 1) + 22) (by omega)
  rw [put_put hfit h24] at b2
  simp only [put_put hfit h24] at b3
  rw [hself] at a1 a2
  have hok : okRun f [⟨1, k, 24 * ((i : Int) + 1), bs (bodyL r)⟩, ⟨1, k, 24 * ((i : Int) + 1) + 22, bs markL⟩] := ⟨a1, by rw [a2]; exact b1, trivial⟩
  have hnm : ∀ l : List UInt8, l.length = 22 → stOf (l ++ [255, 255]) ((i : Int) + 1) ≠ 2 := fun l hl h2 =>
    dec_noMark (m := [255, 255]) hl (by decide) (stOf_two h2).1
  by_cases hc : 0 ≤ cut ∧ cut < 2
  · rw [if_pos hc]
    obtain ⟨c, rfl⟩ : ∃ c : Nat, cut = (c : Int) := ⟨cut.toNat, by omega⟩
    rcases (show c = 0 ∨ c = 1 from by omega) with rfl | rfl
    · refine ⟨bs (tornL (List.replicate 22 255) (bodyL r) (bl m) ++ [255, 255]), by rw [bs_size, List.length_append, tornL_length]; rfl, ?_, Or.inr ?_, fun h => absurd hc h⟩
      · rw [play_at hok (k := 0) rfl]
        show (tearF f _ m, 0, 0) = _
        have := a3 m
        rw [hself] at this
        rw [this]; rfl
      · rw [bl_bs]; exact hnm _ (by rw [tornL_length, List.length_replicate])
    · refine ⟨bs (bodyL r ++ tornL [255, 255] markL (bl m)), by rw [bs_size, List.length_append, bodyL_length, tornL_length]; rfl, ?_, ?_, fun h => absurd hc h⟩
      · rw [play_at hok (k := 1) rfl]
        show (tearF (doF f _) _ m, 1, 0) = _
        rw [a2, b3 m]; rfl
      · by_cases hm : tornL [255, 255] markL (bl m) = markL
        · exact Or.inl (by rw [hm]; rfl)
        · refine Or.inr fun h2 => ?_
          rw [bl_bs] at h2
          have := dec_body (r := r) ⟨by omega, hkr.2⟩ (m := tornL [255, 255] markL (bl m)) (tornL_length _ _ _)
          rw [if_neg hm, (stOf_two h2).1] at this
          exact absurd this (by decide)
  · rw [if_neg hc]
    refine ⟨bs (encL r), by rw [bs_size, encL_length], ?_, Or.inl rfl, fun _ => rfl⟩
    rw [play_all hok (by show cut < 0 ∨ ((2 : Nat) : Int) ≤ cut; omega)]
    rw [runF, runF, runF, a2, b2]; rfl

/-- The ops of a fresh bank. -/
def freshO (o : Int) (g seq data : Nat) : List PwOp :=
  [⟨2, o, 0, ⟨#[]⟩⟩, ⟨1, o, 24, bs (bodyL ⟨3, seq, data⟩)⟩, ⟨1, o, 46, bs markL⟩, ⟨1, o, 0, bs (bodyL ⟨1, g, 0⟩)⟩, ⟨1, o, 22, bs markL⟩]
def killO (o : Int) : PwOp := ⟨1, o, 0, bs [0, 0]⟩
def freshL (o : Int) (kill : Bool) (g seq data : Nat) : List PwOp := if kill = true then killO o :: freshO o g seq data else freshO o g seq data
theorem freshL_length (o : Int) (kill : Bool) (g seq data : Nat) : (freshL o kill g seq data).length = if kill = true then 6 else 5 := by
  unfold freshL; split <;> rfl
/-- A bank of z bytes that is fresh. -/
def freshB (z g seq data : Nat) : ByteArray := putT (putT (blankT z) 1 (bs (encL ⟨3, seq, data⟩))) 0 (bs (encL ⟨1, g, 0⟩))
/-- A header that is not good, and will not be by bytes that become blank. -/
def dead (l : List UInt8) : Prop := gd l 0 0 ≠ 165 ∨ gd l 1 0 ≠ 1 ∨ gd l 22 0 ≠ 90 ∨ gd l 23 0 ≠ 60
def deadH (s : ByteArray) : Prop := dead (slL s 0)
theorem dead_not {l : List UInt8} (h : dead l) : stOf l 0 ≠ 2 := fun h2 => by
  obtain ⟨h3, h4⟩ := stOf_two h2
  obtain ⟨z1, z2, z3, z4, z5, z6⟩ := dec_zero h3
  have hk := h4.2 rfl
  unfold decR at hk
  rw [if_pos h3] at hk
  have hk2 : ((gd l 1 0).toNat : Int) = 1 := hk
  have k1 : gd l 1 0 = 1 := by apply UInt8.toNat_inj.1; have : (1 : UInt8).toNat = 1 := rfl; omega
  have e : ∀ j, gd l (22 + j) 0 = gd (l.drop 22) j 0 := fun j => by unfold gd; rw [List.getElem?_drop]
  have k2 : gd l 22 0 = 90 := by rw [e 0, z6]; rfl
  have k3 : gd l 23 0 = 60 := by rw [e 1, z6]; rfl
  rcases h with h | h | h | h
  · exact h z2
  · exact h k1
  · exact h k2
  · exact h k3
theorem deadH_not {s : ByteArray} (h : deadH s) : genE s ≠ 0 := fun h0 => by
  have h1 := gen_state.1 h0
  by_cases hz : slotsF s.size ≠ 0
  · have h2 := state_slL hz (k := 0) (by have := slots_le (s.size : Int); omega)
    rw [show stateF s 0 = stateF s ((0 : Nat) : Int) from rfl, h2] at h1
    exact dead_not h h1
  · have e : slotT s 0 = ⟨#[]⟩ := slotT_out (fun x => hz x.1)
    rw [stateF, e] at h1
    exact absurd h1 (by decide)
theorem deadH_sound {s : ByteArray} (h : deadH s) : soundB s = false := by
  cases hs : soundB s
  · rfl
  · exact absurd (sound_parts hs).1 (deadH_not h)
theorem gd_slL (s : ByteArray) (i : Nat) (h : i < 24) (d : UInt8) : gd (slL s 0) i d = gd (bl s) i d := by
  unfold slL gd
  rw [show 24 * 0 = 0 from rfl, List.drop_zero, List.getElem?_take, if_pos h]
theorem deadH_era {s : ByteArray} (m : ByteArray) (h : deadH s) (hz : 24 ≤ s.size) : deadH (eraT s m) := by
  have e : ∀ i, i < 24 → gd (slL (eraT s m) 0) i 0 = eraB (gd (slL s 0) i 0) (gd (bl m) i 0) := fun i hi => by
    rw [gd_slL _ i hi, gd_slL _ i hi, gd_eraT s m i (by omega)]
  have k : ∀ (i : Nat) (x : UInt8), i < 24 → x ≠ 255 → gd (slL s 0) i 0 ≠ x → gd (slL (eraT s m) 0) i 0 ≠ x := fun i x hi hx hg => by
    rw [e i hi]; unfold eraB; split
    · exact fun h => hx h.symm
    · exact hg
  rcases h with h | h | h | h
  · exact Or.inl (k 0 165 (by decide) (by decide) h)
  · exact Or.inr (Or.inl (k 1 1 (by decide) (by decide) h))
  · exact Or.inr (Or.inr (Or.inl (k 22 90 (by decide) (by decide) h)))
  · exact Or.inr (Or.inr (Or.inr (k 23 60 (by decide) (by decide) h)))
theorem deadH_rep {s : ByteArray} (h : slL s 0 = List.replicate 24 255) : deadH s := Or.inl (by rw [h]; decide)
theorem slL_blank {z j : Nat} (h : 24 * j + 24 ≤ z) : slL (blankT z) j = List.replicate 24 255 := by
  rw [slL, bl_blank, rep_drop, rep_take, Nat.min_eq_left (by omega)]
/-- The header's place, killed or torn as it is killed. -/
theorem kill_dead {l : List UInt8} (hl : l.length = 24) (h : stOf l 0 = 2) (m : List UInt8) :
    dead (tornL (l.take 2) [0, 0] m ++ l.drop 2) ∨ tornL (l.take 2) [0, 0] m ++ l.drop 2 = l := by
  obtain ⟨h3, h4⟩ := stOf_two h
  obtain ⟨z1, z2, z3, z4, z5, z6⟩ := dec_zero h3
  have hk := h4.2 rfl
  unfold decR at hk
  rw [if_pos h3] at hk
  have hk2 : ((gd l 1 0).toNat : Int) = 1 := hk
  have k1 : gd l 1 0 = 1 := by apply UInt8.toNat_inj.1; have : (1 : UInt8).toNat = 1 := rfl; omega
  have hlt : (l.take 2).length = 2 := by rw [List.length_take]; omega
  have htt : (tornL (l.take 2) [0, 0] m).length = 2 := by rw [tornL_length, hlt]
  generalize tornL (l.take 2) [0, 0] m = t at *
  match t, htt with
  | [x, y], _ =>
    by_cases hx : x = 165
    · by_cases hy : y = 1
      · right
        subst hx; subst hy
        match l, hl, z2, k1 with
        | a :: b :: l', _, z2, k1 =>
          have ha : a = 165 := z2
          have hb : b = 1 := k1
          rw [ha, hb]; rfl
      · exact Or.inl (Or.inr (Or.inl hy))
    · exact Or.inl (Or.inl hx)
/-- Of a fresh bank's ops, from the erase on: what becomes of each one. -/
theorem fresh_tears (f : Fl) {o : Int} (ho : o = 0 ∨ o = 1) (u : ByteArray) (e : Int) (g seq data : Nat) (hu : 48 ≤ u.size) (he : e < f.lim) :
    okRun (upd f o u e) (freshO o g seq data) ∧ runF (upd f o u e) (freshO o g seq data) = upd f o (freshB u.size g seq data) (e + 1) ∧
    ∀ (c : Nat) (p : PwOp), (freshO o g seq data)[c]? = some p → ∀ m, ∃ v, tearF (runF (upd f o u e) ((freshO o g seq data).take c)) p m = upd f o v (e + 1) ∧ v.size = u.size ∧ (v = freshB u.size g seq data ∨ deadH v ∨ v = eraT u m) := by
  obtain ⟨a1, a2, a3⟩ := erase_upd f ho u e he
  have zB : (blankT u.size).size = u.size := blankT_len _
  have h24 : ∀ r : Rec, (bs (bodyL r ++ [255, 255])).size = 24 := fun r => by rw [bs_size, List.length_append, bodyL_length]; rfl
  have h24e : ∀ r : Rec, (bs (encL r)).size = 24 := fun r => by rw [bs_size, encL_length]
  have h24t : ∀ (l : List UInt8), l.length = 22 → (bs (l ++ [255, 255])).size = 24 := fun l hl => by rw [bs_size, List.length_append, hl]; rfl
  have h24m : ∀ (r : Rec) (l : List UInt8), l.length = 2 → (bs (bodyL r ++ l)).size = 24 := fun r l hl => by rw [bs_size, List.length_append, bodyL_length, hl]
  have fit1 : 24 * 1 + 24 ≤ (blankT u.size).size := by omega
  have fit0 : 24 * 0 + 24 ≤ (blankT u.size).size := by omega
  obtain ⟨b1, b2, b3⟩ := body_upd f ho (blankT u.size) (e + 1) (j := 1) fit1 (slL_blank (by omega)) ⟨3, seq, data⟩ (q := 24) (by omega)
  obtain ⟨c1, c2, c3⟩ := mark_upd f ho (putT (blankT u.size) 1 (bs (bodyL ⟨3, seq, data⟩ ++ [255, 255]))) (e + 1) (j := 1) (by rw [putT_size fit1 (h24 _)]; exact fit1) ⟨3, seq, data⟩ (by rw [slL_put fit1 (h24 _), bl_bs]) (q := 46) (by omega)
  rw [put_put fit1 (h24 _)] at c2
  simp only [put_put fit1 (h24 ⟨3, seq, data⟩)] at c3
  have z3 := putT_size (s := blankT u.size) fit1 (h24e ⟨3, seq, data⟩)
  have hb0 : slL (putT (blankT u.size) 1 (bs (encL ⟨3, seq, data⟩))) 0 = List.replicate 24 255 := by rw [slL_put_ne fit1 (h24e _) (by decide)]; exact slL_blank (by omega)
  have k1 : ∀ t : ByteArray, t.size = 24 → deadH (putT (blankT u.size) 1 t) ∧ (putT (blankT u.size) 1 t).size = u.size := fun t ht => ⟨deadH_rep (by rw [slL_put_ne fit1 ht (by decide)]; exact slL_blank (by omega)), by rw [putT_size fit1 ht, zB]⟩
  generalize putT (blankT u.size) 1 (bs (bodyL ⟨3, seq, data⟩ ++ [255, 255])) = u1 at *
  unfold freshB
  generalize hu2 : putT (blankT u.size) 1 (bs (encL ⟨3, seq, data⟩)) = u2 at *
  have fit2 : 24 * 0 + 24 ≤ u2.size := by omega
  obtain ⟨d1, d2, d3⟩ := body_upd f ho u2 (e + 1) (j := 0) fit2 hb0 ⟨1, g, 0⟩ (q := 0) (by omega)
  obtain ⟨e1, e2, e3⟩ := mark_upd f ho (putT u2 0 (bs (bodyL ⟨1, g, 0⟩ ++ [255, 255]))) (e + 1) (j := 0) (by rw [putT_size fit2 (h24 _)]; exact fit2) ⟨1, g, 0⟩ (by rw [slL_put fit2 (h24 _), bl_bs]) (q := 22) (by omega)
  rw [put_put fit2 (h24 _)] at e2
  simp only [put_put fit2 (h24 ⟨1, g, 0⟩)] at e3
  generalize putT u2 0 (bs (bodyL ⟨1, g, 0⟩ ++ [255, 255])) = u3 at *
  have k0 : ∀ t : ByteArray, t.size = 24 → dead (bl t) → deadH (putT u2 0 t) := fun t ht h => by unfold deadH; rw [slL_put fit2 ht]; exact h
  have z0 : ∀ t : ByteArray, t.size = 24 → (putT u2 0 t).size = u.size := fun t ht => by rw [putT_size fit2 ht, z3, zB]
  refine ⟨⟨a1, by rw [a2]; exact b1, by rw [a2, b2]; exact c1, by rw [a2, b2, c2]; exact d1, by rw [a2, b2, c2, d2]; exact e1, trivial⟩, by unfold freshO; rw [runF, runF, runF, runF, runF, runF, a2, b2, c2, d2, e2], fun c p hp m => ?_⟩
  match c with
  | 0 =>
    cases hp
    exact ⟨_, a3 m, eraT_size _ _, Or.inr (Or.inr rfl)⟩
  | 1 =>
    cases hp
    have ht := h24t (tornL (List.replicate 22 255) (bodyL ⟨3, seq, data⟩) (bl m)) (by rw [tornL_length, List.length_replicate])
    refine ⟨_, ?_, (k1 _ ht).2, Or.inr (Or.inl (k1 _ ht).1)⟩
    show tearF (doF _ _) _ m = _
    rw [a2, b3 m]
  | 2 =>
    cases hp
    have ht := h24m ⟨3, seq, data⟩ (tornL [255, 255] markL (bl m)) (tornL_length _ _ _)
    refine ⟨_, ?_, (k1 _ ht).2, Or.inr (Or.inl (k1 _ ht).1)⟩
    show tearF (doF (doF _ _) _) _ m = _
    rw [a2, b2, c3 m]
  | 3 =>
    cases hp
    have hl : (tornL (List.replicate 22 255) (bodyL ⟨1, g, 0⟩) (bl m)).length = 22 := by rw [tornL_length, List.length_replicate]
    have ht := h24t _ hl
    refine ⟨_, ?_, z0 _ ht, Or.inr (Or.inl (k0 _ ht (Or.inr (Or.inr (Or.inl ?_)))))⟩
    · show tearF (doF (doF (doF _ _) _) _) _ m = _
      rw [a2, b2, c2, d3 m]
    · rw [bl_bs]; unfold gd
      rw [List.getElem?_append_right (by omega), hl]; decide
  | 4 =>
    cases hp
    have hl := tornL_length [255, 255] markL (bl m)
    have ht := h24m ⟨1, g, 0⟩ _ hl
    by_cases hm : tornL [255, 255] markL (bl m) = markL
    · refine ⟨_, ?_, z0 _ ht, Or.inl (by rw [hm]; rfl)⟩
      show tearF (doF (doF (doF (doF _ _) _) _) _) _ m = _
      rw [a2, b2, c2, d2, e3 m]
    · refine ⟨_, ?_, z0 _ ht, Or.inr (Or.inl (k0 _ ht (Or.inr (Or.inr ?_))))⟩
      · show tearF (doF (doF (doF (doF _ _) _) _) _) _ m = _
        rw [a2, b2, c2, d2, e3 m]
      · rw [bl_bs]; unfold gd
        rw [List.getElem?_append_right (by rw [bodyL_length]; omega), List.getElem?_append_right (by rw [bodyL_length]; omega), bodyL_length]
        generalize tornL [255, 255] markL (bl m) = t at *
        match t, hl with
        | [x, y], _ =>
          by_cases hx : x = 90
          · right; intro hy; exact hm (by rw [hx, show y = 60 from hy]; rfl)
          · left; exact hx
  | c + 5 => cases hp
/-- Of a fresh bank that is cut anywhere. -/
theorem fresh_play (f : Fl) {o : Int} (ho : o = 0 ∨ o = 1) (kill : Bool) (g seq data : Nat) (hz : 48 ≤ (f.bank o).size) (he : f.erases o < f.lim) (cut : Int) (m : ByteArray) :
    ∃ (v : ByteArray) (e : Int), playR f (freshL o kill g seq data) cut m = (upd f o v e, (if 0 ≤ cut ∧ cut < (freshL o kill g seq data).length then cut.toNat else (freshL o kill g seq data).length), 0) ∧ v.size = (f.bank o).size ∧ (e = f.erases o ∨ e = f.erases o + 1) ∧
      (¬ (0 ≤ cut ∧ cut < (freshL o kill g seq data).length) → v = freshB (f.bank o).size g seq data ∧ e = f.erases o + 1) ∧
      ((kill = true → stOf (slL (f.bank o) 0) 0 = 2) → (kill = false → deadH (f.bank o)) → (v = freshB (f.bank o).size g seq data ∧ e = f.erases o + 1) ∨ deadH v ∨ (v = f.bank o ∧ e = f.erases o)) := by
  have hself := upd_self f o
  cases kill
  · -- no kill
    show ∃ v e, playR f (freshO o g seq data) cut m = (upd f o v e, (if 0 ≤ cut ∧ cut < ((5 : Nat) : Int) then cut.toNat else 5), 0) ∧ _ ∧ _ ∧ (¬ (0 ≤ cut ∧ cut < ((5 : Nat) : Int)) → _) ∧ _
    obtain ⟨t1, t2, t3⟩ := fresh_tears f ho (f.bank o) (f.erases o) g seq data hz he
    rw [hself] at t1 t2
    simp only [hself] at t3
    by_cases hc : 0 ≤ cut ∧ cut < ((5 : Nat) : Int)
    · rw [if_pos hc]
      obtain ⟨c, rfl⟩ : ∃ c : Nat, cut = (c : Int) := ⟨cut.toNat, by omega⟩
      obtain ⟨p, hp⟩ : ∃ p, (freshO o g seq data)[c]? = some p := ⟨_, List.getElem?_eq_getElem (by show c < 5; omega)⟩
      obtain ⟨v, hv, hvz, hvc⟩ := t3 c p hp m
      refine ⟨v, _, by rw [play_at t1 hp, hv]; rfl, hvz, Or.inr rfl, fun h => absurd hc h, fun _ hd => ?_⟩
      rcases hvc with h | h | h
      · exact Or.inl ⟨h, rfl⟩
      · exact Or.inr (Or.inl h)
      · exact Or.inr (Or.inl (by rw [h]; exact deadH_era m (hd rfl) (by omega)))
    · rw [if_neg hc]
      refine ⟨_, _, by rw [play_all t1 (by show cut < 0 ∨ ((5 : Nat) : Int) ≤ cut; omega), t2]; rfl, ?_, Or.inr rfl, fun _ => ⟨rfl, rfl⟩, fun _ _ => Or.inl ⟨rfl, rfl⟩⟩
      have f1 : 24 * 1 + 24 ≤ (blankT (f.bank o).size).size := by rw [blankT_len]; omega
      have q1 := putT_size (t := bs (encL ⟨3, seq, data⟩)) f1 (by rw [bs_size, encL_length])
      unfold freshB
      rw [putT_size (by rw [q1, blankT_len]; omega) (by rw [bs_size, encL_length]), q1, blankT_len]
  · -- kill
    show ∃ v e, playR f (killO o :: freshO o g seq data) cut m = (upd f o v e, (if 0 ≤ cut ∧ cut < ((6 : Nat) : Int) then cut.toNat else 6), 0) ∧ _ ∧ _ ∧ (¬ (0 ≤ cut ∧ cut < ((6 : Nat) : Int)) → _) ∧ _
    obtain ⟨k1, k2, k3⟩ := prog_upd f ho (f.bank o) (f.erases o) (d := bs [0, 0]) (j := 0) (a := 0) (by omega) (by show 0 + 2 ≤ 24; omega) rfl rfl (q := 0) (by omega)
    rw [hself] at k1 k2
    simp only [hself] at k3
    have hl := slL_length (s := f.bank o) (j := 0) (by omega)
    have hx : ∀ t : List UInt8, t.length = 2 → (bs (t ++ (slL (f.bank o) 0).drop 2)).size = 24 := fun t ht => by rw [bs_size, List.length_append, List.length_drop, hl, ht]
    have hl2 : ((slL (f.bank o) 0).take 2).length = 2 := by rw [List.length_take, hl]; rfl
    have k2' : doF f (killO o) = upd f o (putT (f.bank o) 0 (bs (andL ((slL (f.bank o) 0).take 2) [0, 0] ++ (slL (f.bank o) 0).drop 2))) (f.erases o) := k2
    have k3' : ∀ m, tearF f (killO o) m = upd f o (putT (f.bank o) 0 (bs (tornL ((slL (f.bank o) 0).take 2) [0, 0] (bl m) ++ (slL (f.bank o) 0).drop 2))) (f.erases o) := k3
    have za := hx (andL ((slL (f.bank o) 0).take 2) [0, 0]) (by rw [andL_length, hl2])
    have hdead : deadH (putT (f.bank o) 0 (bs (andL ((slL (f.bank o) 0).take 2) [0, 0] ++ (slL (f.bank o) 0).drop 2))) := by
      unfold deadH
      rw [slL_put (by omega) za, bl_bs]
      left
      have hla : (andL ((slL (f.bank o) 0).take 2) [0, 0]).length = 2 := by rw [andL_length, hl2]
      have : gd (andL ((slL (f.bank o) 0).take 2) [0, 0] ++ (slL (f.bank o) 0).drop 2) 0 0 = gd (andL ((slL (f.bank o) 0).take 2) [0, 0]) 0 0 := by unfold gd; rw [List.getElem?_append_left (by omega)]
      rw [this]
      generalize (slL (f.bank o) 0).take 2 = w at *
      match w, hl2 with
      | [x, y], _ =>
        show band x 0 ≠ 165
        rw [show band x 0 = 0 from by apply ext8; intro b hb; simp only [tB_band]; rw [show tB 0 b = false from by unfold tB; simp]; cases tB x b <;> rfl]
        decide
    have zk := putT_size (s := f.bank o) (j := 0) (by omega) za
    generalize putT (f.bank o) 0 (bs (andL ((slL (f.bank o) 0).take 2) [0, 0] ++ (slL (f.bank o) 0).drop 2)) = u at *
    obtain ⟨t1, t2, t3⟩ := fresh_tears f ho u (f.erases o) g seq data (by omega) he
    have hok : okRun f (killO o :: freshO o g seq data) := ⟨k1, by rw [k2']; exact t1⟩
    rw [zk] at t2 t3
    by_cases hc : 0 ≤ cut ∧ cut < ((6 : Nat) : Int)
    · rw [if_pos hc]
      obtain ⟨c, rfl⟩ : ∃ c : Nat, cut = (c : Int) := ⟨cut.toNat, by omega⟩
      match c with
      | 0 =>
        refine ⟨_, _, by rw [play_at hok (k := 0) rfl]; show (tearF f (killO o) m, 0, 0) = _; rw [k3' m]; rfl, ?_, Or.inl rfl, fun h => absurd hc h, fun hg _ => ?_⟩
        · rw [putT_size (by omega) (hx _ (by rw [tornL_length, hl2]))]
        · rcases kill_dead hl (hg rfl) (bl m) with h | h
          · refine Or.inr (Or.inl ?_)
            unfold deadH
            rw [slL_put (by omega) (hx _ (by rw [tornL_length, hl2])), bl_bs]; exact h
          · refine Or.inr (Or.inr ⟨?_, rfl⟩)
            rw [h]; exact put_self _ _ _ (bl_bs _)
      | c + 1 =>
        obtain ⟨p, hp⟩ : ∃ p, (freshO o g seq data)[c]? = some p := ⟨_, List.getElem?_eq_getElem (by show c < 5; omega)⟩
        obtain ⟨v, hv, hvz, hvc⟩ := t3 c p hp m
        refine ⟨v, _, by rw [play_at hok (k := c + 1) (by simpa using hp), List.take_succ_cons, runF, k2', hv]; rfl, hvz, Or.inr rfl, fun h => absurd hc h, fun _ _ => ?_⟩
        rcases hvc with h | h | h
        · exact Or.inl ⟨h, rfl⟩
        · exact Or.inr (Or.inl h)
        · exact Or.inr (Or.inl (by rw [h]; exact deadH_era m hdead (by omega)))
    · rw [if_neg hc]
      refine ⟨_, _, by rw [play_all hok (by show cut < 0 ∨ ((6 : Nat) : Int) ≤ cut; omega), runF, k2', t2]; rfl, ?_, Or.inr rfl, fun _ => ⟨rfl, rfl⟩, fun _ _ => Or.inl ⟨rfl, rfl⟩⟩
      have f1 : 24 * 1 + 24 ≤ (blankT (f.bank o).size).size := by rw [blankT_len]; omega
      have q1 := putT_size (t := bs (encL ⟨3, seq, data⟩)) f1 (by rw [bs_size, encL_length])
      unfold freshB
      rw [putT_size (by rw [q1, blankT_len]; omega) (by rw [bs_size, encL_length]), q1, blankT_len]
end Go.Proofs.YthmpjoiifglbjaaGreat
namespace Go.Proofs.YthmpjoiifglbjaaGreat
set_option linter.unusedVariables false

/-- The ops of an append into slot (a number of place). -/
def appL (k slot : Int) (seq data : Nat) : List PwOp := [⟨1, k, atF slot, bs (bodyL ⟨2, seq, data⟩)⟩, ⟨1, k, markF slot, bs markL⟩]
def goodH (f : Fl) (k : Int) : Bool := stateF (f.bank k) 0 == 2
def topN : Nat := 18446744073709551615
def planR (f : Fl) (d : Nat) : List PwOp × Int :=
  if evenF f = false then ([], 1)
  else if bankK f < 0 then
    (if f.e0 < f.lim then (freshL 0 (goodH f 0) 1 1 d, 0) else if f.e1 < f.lim then (freshL 1 (goodH f 1) 1 1 d, 0) else ([], 4))
  else if (pickS f).seq = topN then ([], 11)
  else if 0 < nextF (f.bank (bankK f)) then (appL (bankK f) (nextF (f.bank (bankK f)) : Int) ((pickS f).seq + 1) d, 0)
  else if (pickS f).gen = topN then ([], 11)
  else if f.lim ≤ f.erases (otherN (bankK f)) then ([], 4)
  else (freshL (otherN (bankK f)) (goodH f (otherN (bankK f))) ((pickS f).gen + 1) ((pickS f).seq + 1) d, 0)

theorem appL_is (k : Int) {i : Nat} (h : i < 12) (seq data : Nat) : appL k ((i + 1 : Nat) : Int) seq data = [⟨1, k, 24 * ((i : Int) + 1), bs (bodyL ⟨2, seq, data⟩)⟩, ⟨1, k, 24 * ((i : Int) + 1) + 22, bs markL⟩] := by
  unfold appL
  rw [atF_in (by omega), markF_in (by omega), show ((i + 1 : Nat) : Int) = (i : Int) + 1 from by omega]
theorem decR_lt (l : List UInt8) : (decR l).seq < 18446744073709551616 ∧ (decR l).data < 18446744073709551616 := by
  by_cases h : decE l = 0
  · have := (enc_decR h).2.2; exact ⟨this.ns, this.nd⟩
  · unfold decR; rw [if_neg h]; exact ⟨by decide, by decide⟩
theorem lastR_lt (s : ByteArray) : (lastR s).seq < 18446744073709551616 ∧ (lastR s).data < 18446744073709551616 := by
  unfold lastR
  cases h : lastG s (slotsN s) with
  | none => exact ⟨by decide, by decide⟩
  | some b =>
    obtain ⟨⟨j, _, _, hj⟩, _⟩ := lastG_some s _ b h
    show b.seq < _ ∧ b.data < _
    rw [← hj]; exact decR_lt _
theorem genN_lt (s : ByteArray) : genN s < 18446744073709551616 := by
  unfold genN; split
  · exact (decR_lt _).1
  · decide
theorem other_is {k : Int} (hk : k = 0 ∨ k = 1) : otherN k = 1 - k := by rcases hk with rfl | rfl <;> rfl
theorem evenF_parts {f : Fl} (h : evenF f = true) : slotsF f.b0.size ≠ 0 ∧ f.b0.size = f.b1.size := by
  unfold evenF at h; simpa using h
theorem even_bank {f : Fl} (h : evenF f = true) {k : Int} (hk : k = 0 ∨ k = 1) : slotsF (f.bank k).size ≠ 0 ∧ (f.bank k).size = f.b0.size := by
  obtain ⟨h1, h2⟩ := evenF_parts h
  rcases hk with rfl | rfl
  · exact ⟨h1, rfl⟩
  · exact ⟨by show slotsF f.b1.size ≠ 0; rw [← h2]; exact h1, h2.symm⟩
theorem upd_even {f : Fl} (h : evenF f = true) {k : Int} (hk : k = 0 ∨ k = 1) {u : ByteArray} (hu : u.size = (f.bank k).size) (e : Int) : evenF (upd f k u e) = true := by
  obtain ⟨h1, h2⟩ := evenF_parts h
  have hz := (even_bank h hk).2
  unfold evenF
  rcases hk with rfl | rfl
  · show (decide (slotsF u.size ≠ 0) && decide (u.size = f.b1.size)) = true
    rw [hu, hz, ← h2]; simp [h1]
  · show (decide (slotsF f.b0.size ≠ 0) && decide (f.b0.size = u.size)) = true
    rw [hu, hz]; simp [h1]
/-- Which bank counts depends on what each of them says alone. -/
theorem bankK_same {f g : Fl} (h : ∀ k : Int, k = 0 ∨ k = 1 → soundB (g.bank k) = soundB (f.bank k) ∧ genN (g.bank k) = genN (f.bank k)) : bankK g = bankK f := by
  have h0 := h 0 (Or.inl rfl)
  have h1 := h 1 (Or.inr rfl)
  have e0 : ∀ f : Fl, f.bank 0 = f.b0 := fun _ => rfl
  have e1 : ∀ f : Fl, f.bank 1 = f.b1 := fun _ => rfl
  rw [e0, e0] at h0; rw [e1, e1] at h1
  unfold bankK bankG
  rw [h0.1, h0.2, h1.1, h1.2]
theorem two_banks {k : Int} (hk : k = 0 ∨ k = 1) {P : Int → Prop} (h1 : P k) (h2 : P (1 - k)) : ∀ j : Int, j = 0 ∨ j = 1 → P j := fun j hj => by
  by_cases e : j = k
  · rw [e]; exact h1
  · rw [show j = 1 - k from by omega]; exact h2

/-- What a fresh bank says. -/
theorem st_head {g : Nat} (hg : g < 18446744073709551616) : stOf (encL ⟨1, g, 0⟩) 0 = 2 ∧ decR (encL ⟨1, g, 0⟩) = ⟨1, g, 0⟩ := by
  have kr : Rec.known ⟨1, g, 0⟩ := ⟨by show (1 : Int) ≤ 1; omega, by show (1 : Int) ≤ 3; omega⟩
  have ok : Rec.ok ⟨1, g, 0⟩ := ⟨⟨by show (-9223372036854775808 : Int) ≤ 1; omega, by show (1 : Int) ≤ 9223372036854775807; omega⟩, hg, by show 0 < 18446744073709551616; decide⟩
  have h0 : decE (encL ⟨1, g, 0⟩) = 0 := (dec_body kr (m := markL) rfl).trans (if_pos rfl)
  have h1 := decR_body ok kr
  refine ⟨?_, h1⟩
  unfold stOf
  rw [h0, if_neg (by decide), if_pos ⟨rfl, by rw [h1]; exact ⟨fun _ => rfl, fun _ => rfl⟩⟩]
theorem rec_ok (k : Int) (h : 1 ≤ k ∧ k ≤ 3) {seq data : Nat} (hs : seq < 18446744073709551616) (hd : data < 18446744073709551616) : Rec.ok ⟨k, seq, data⟩ :=
  ⟨⟨by show (-9223372036854775808 : Int) ≤ k; omega, by show k ≤ 9223372036854775807; omega⟩, hs, hd⟩
theorem fresh_says {z g seq data : Nat} (hz : slotsF z ≠ 0) (hg : g < 18446744073709551616) (hs : seq < 18446744073709551616) (hd : data < 18446744073709551616) :
    soundB (freshB z g seq data) = true ∧ genN (freshB z g seq data) = g ∧ lastR (freshB z g seq data) = ⟨3, seq, data⟩ ∧ (freshB z g seq data).size = z ∧
    nextF (freshB z g seq data) = (if slotsF z = 1 then 0 else 2) := by
  have hsz := slots_size hz
  have f1 : 24 * 1 + 24 ≤ (blankT z).size := by rw [blankT_len]; omega
  have f0 : ∀ j : Nat, (j : Int) ≤ slotsF z → 24 * j + 24 ≤ z := fun j hj => by omega
  have e24 : ∀ r, (bs (encL r)).size = 24 := fun r => by rw [bs_size, encL_length]
  have q1 := putT_size (t := bs (encL ⟨3, seq, data⟩)) f1 (e24 _)
  rw [blankT_len] at q1
  have g0 : 24 * 0 + 24 ≤ (putT (blankT z) 1 (bs (encL ⟨3, seq, data⟩))).size := by omega
  have q2 := putT_size (t := bs (encL ⟨1, g, 0⟩)) g0 (e24 _)
  have hsize : (freshB z g seq data).size = z := by unfold freshB; rw [q2, q1]
  have l0 : slL (freshB z g seq data) 0 = encL ⟨1, g, 0⟩ := by unfold freshB; rw [slL_put g0 (e24 _), bl_bs]
  have l1 : slL (freshB z g seq data) 1 = encL ⟨3, seq, data⟩ := by unfold freshB; rw [slL_put_ne g0 (e24 _) (by decide), slL_put f1 (e24 _), bl_bs]
  have lj : ∀ j : Nat, 2 ≤ j → (j : Int) ≤ slotsF z → slL (freshB z g seq data) j = List.replicate 24 255 := fun j h2 hj => by
    unfold freshB; rw [slL_put_ne g0 (e24 _) (by omega), slL_put_ne f1 (e24 _) (by omega)]; exact slL_blank (f0 j hj)
  generalize freshB z g seq data = v at *
  have hzv : slotsF v.size ≠ 0 := by rw [hsize]; exact hz
  have hle : slotsF v.size = slotsF z := by rw [hsize]
  have hN : slotsN v = (slotsF z).toNat := by unfold slotsN; rw [hle]
  have s0 : stateF v 0 = 2 := by
    have := state_slL hzv (k := 0) (by omega)
    rw [show stateF v 0 = stateF v ((0 : Nat) : Int) from rfl, this, l0]; exact (st_head hg).1
  have d0 : decR (bl (slotT v 0)) = ⟨1, g, 0⟩ := by
    have := slotT_slL hzv (k := 0) (by omega)
    rw [show slotT v 0 = slotT v ((0 : Nat) : Int) from rfl, this, l0]; exact (st_head hg).2
  have ok3 := rec_ok 3 ⟨by decide, by decide⟩ hs hd
  have s1 : stateF v (((0 : Nat) : Int) + 1) = 2 := by
    have := state_slL hzv (k := 1) (by omega)
    rw [show ((0 : Nat) : Int) + 1 = ((1 : Nat) : Int) from rfl, this, l1]; exact st_enc ok3 ⟨by show (2 : Int) ≤ 3; omega, by show (3 : Int) ≤ 3; omega⟩ (by decide)
  have d1 : recF v (((0 : Nat) : Int) + 1) = ⟨3, seq, data⟩ := by
    have := slotT_slL hzv (k := 1) (by omega)
    rw [recF, show ((0 : Nat) : Int) + 1 = ((1 : Nat) : Int) from rfl, this, l1]; exact decR_body ok3 ⟨by show (1 : Int) ≤ 3; omega, by show (3 : Int) ≤ 3; omega⟩
  have sb : ∀ j : Nat, 1 ≤ j → j < slotsN v → stateF v ((j : Int) + 1) = 0 := fun j h1 h2 => by
    have hj : ((j + 1 : Nat) : Int) ≤ slotsF v.size := by omega
    have := state_slL hzv hj
    rw [show (j : Int) + 1 = ((j + 1 : Nat) : Int) from by omega, this, lj (j + 1) (by omega) (by omega)]
    unfold stOf; rw [dec_blank24, if_pos rfl]
  obtain ⟨b1, b2, _⟩ := scan_blank (s := v) (k := 1) (n := slotsN v) (by omega) sb
  have hl : lastG v 1 = some ⟨3, seq, data⟩ := by
    rw [lastG, s1, d1, if_pos ⟨rfl, fun b hb => by cases hb⟩]
  rw [hl] at b1
  have hnx : nextG v 1 = 2 := by rw [nextG, s1, if_pos (by decide)]
  refine ⟨sound_mk (gen_state.2 s0) (by unfold lastE; rw [b1]; rfl), by unfold genN; rw [if_pos s0, d0], by unfold lastR; rw [b1]; rfl, hsize, ?_⟩
  unfold nextF
  rw [b2, hnx, hN]
  by_cases e : slotsF z = 1
  · rw [if_pos (by omega), if_pos e]
  · rw [if_neg (by omega), if_neg e]
/-- An append: what is read behind it. -/
theorem append_step {f : Fl} {i : Nat} {d : Nat} (hb : bankK f = 0 ∨ bankK f = 1) (hn : nextF (f.bank (bankK f)) = i + 1) (hs : (pickS f).seq ≠ topN) (hd : d < 18446744073709551616) (cut : Int) (m : ByteArray) :
    ∃ (t : ByteArray), t.size = 24 ∧ playR f (appL (bankK f) ((i + 1 : Nat) : Int) ((pickS f).seq + 1) d) cut m = (upd f (bankK f) (putT (f.bank (bankK f)) (i + 1) t) (f.erases (bankK f)), (if 0 ≤ cut ∧ cut < 2 then cut.toNat else 2), 0) ∧
      (t = bs (encL ⟨2, (pickS f).seq + 1, d⟩) ∨ stOf (bl t) ((i : Int) + 1) ≠ 2) ∧ (¬ (0 ≤ cut ∧ cut < 2) → t = bs (encL ⟨2, (pickS f).seq + 1, d⟩)) ∧
      bankK (upd f (bankK f) (putT (f.bank (bankK f)) (i + 1) t) (f.erases (bankK f))) = bankK f ∧
      pickS (upd f (bankK f) (putT (f.bank (bankK f)) (i + 1) t) (f.erases (bankK f))) = (if t = bs (encL ⟨2, (pickS f).seq + 1, d⟩) then ⟨bankK f, (pickS f).gen, (pickS f).seq + 1, d⟩ else pickS f) ∧
      soundB (putT (f.bank (bankK f)) (i + 1) t) = true ∧ (putT (f.bank (bankK f)) (i + 1) t).size = (f.bank (bankK f)).size := by
  have hps := pickS_some hb
  have hsnd := (bankK_sound hb).1
  have hseq : (pickS f).seq = (lastR (f.bank (bankK f))).seq := by rw [hps]
  have hlt := (lastR_lt (f.bank (bankK f))).1
  have hsl : (pickS f).seq + 1 < 18446744073709551616 := by unfold topN at hs; omega
  have ok := rec_ok 2 ⟨by decide, by decide⟩ hsl hd
  have kr : (2 : Int) ≤ (Rec.mk 2 ((pickS f).seq + 1) d).kind ∧ (Rec.mk 2 ((pickS f).seq + 1) d).kind ≤ 3 := ⟨by show (2 : Int) ≤ 2; omega, by show (2 : Int) ≤ 3; omega⟩
  obtain ⟨hle, _, _⟩ := next_all hn
  have hN := slotsN_le (f.bank (bankK f))
  have hNe := slotsN_eq (f.bank (bankK f))
  have hsz := slots_size (sound_slots hsnd)
  obtain ⟨t, ht, hp, hc, hw⟩ := append_play hb hn ⟨2, (pickS f).seq + 1, d⟩ ok kr cut m
  obtain ⟨r1, r2, r3, r4⟩ := read_put hsnd hn ht ok kr (by show _ ≤ (pickS f).seq + 1; omega) hc
  have hbk : bankK (upd f (bankK f) (putT (f.bank (bankK f)) (i + 1) t) (f.erases (bankK f))) = bankK f := by
    refine bankK_same (two_banks hb ?_ ?_)
    · rw [upd_bank, r1, r2, hsnd]; exact ⟨rfl, rfl⟩
    · rw [(upd_other f hb _ _).1]; exact ⟨rfl, rfl⟩
  refine ⟨t, ht, by rw [appL_is _ (by omega)]; exact hp, hc, hw, hbk, ?_, r1, putT_size (by omega) ht⟩
  rw [pickS_some (by rw [hbk]; exact hb), hbk, upd_bank, r2, r3, hps]
  by_cases he : t = bs (encL ⟨2, (lastR (f.bank (bankK f))).seq + 1, d⟩)
  · rw [if_pos he, if_pos he]
  · rw [if_neg he, if_neg he]
/-- What is read when the bank o is fresh, of a greater generation than the other one has. -/
theorem fresh_pick {f : Fl} {o : Int} (ho : o = 0 ∨ o = 1) {g seq d : Nat} (e : Int) (hz : slotsF (f.bank o).size ≠ 0) (hg : g < 18446744073709551616) (hs : seq < 18446744073709551616) (hd : d < 18446744073709551616)
    (hlt : soundB (f.bank (1 - o)) = true → genN (f.bank (1 - o)) < g) :
    bankK (upd f o (freshB (f.bank o).size g seq d) e) = o ∧ pickS (upd f o (freshB (f.bank o).size g seq d) e) = ⟨o, g, seq, d⟩ := by
  obtain ⟨h1, h2, h3, h4, _⟩ := fresh_says hz hg hs hd
  have hb : bankK (upd f o (freshB (f.bank o).size g seq d) e) = o := bankK_is ho (by rw [upd_bank]; exact h1) (by rw [upd_bank, (upd_other f ho _ _).1, h2]; exact hlt)
  refine ⟨hb, ?_⟩
  rw [pickS_some (by rw [hb]; exact ho), hb, upd_bank, h2, h3]
/-- What is read when the other bank is not sound, or the elder one. -/
theorem other_pick {f : Fl} {v : ByteArray} {e : Int} (hb : bankK f = 0 ∨ bankK f = 1) (hlt : soundB v = true → genN v < genN (f.bank (bankK f))) :
    bankK (upd f (1 - bankK f) v e) = bankK f ∧ pickS (upd f (1 - bankK f) v e) = pickS f := by
  have ho : 1 - bankK f = 0 ∨ 1 - bankK f = 1 := by omega
  have hu := (upd_other f ho v e).1
  rw [show 1 - (1 - bankK f) = bankK f from by omega] at hu
  have hk : bankK (upd f (1 - bankK f) v e) = bankK f := bankK_is hb (by rw [hu]; exact (bankK_sound hb).1) (by rw [hu, upd_bank]; exact hlt)
  refine ⟨hk, ?_⟩
  rw [pickS_some (by rw [hk]; exact hb), pickS_some hb, hk, hu]
theorem gen_pick {f : Fl} (hb : bankK f = 0 ∨ bankK f = 1) : (pickS f).gen = genN (f.bank (bankK f)) := by rw [pickS_some hb]
/-- The kinds of plans. -/
inductive PlanIs (f : Fl) (d : Nat) : Prop
  | none (h : (planR f d).2 ≠ 0) (l : (planR f d).1 = [])
  | app (i : Nat) (hb : bankK f = 0 ∨ bankK f = 1) (hn : nextF (f.bank (bankK f)) = i + 1) (hs : (pickS f).seq ≠ topN) (h : planR f d = (appL (bankK f) ((i + 1 : Nat) : Int) ((pickS f).seq + 1) d, 0))
  | first (o : Int) (ho : o = 0 ∨ o = 1) (hb : bankK f < 0) (he : f.erases o < f.lim) (h : planR f d = (freshL o (goodH f o) 1 1 d, 0))
  | next (hb : bankK f = 0 ∨ bankK f = 1) (hn : nextF (f.bank (bankK f)) = 0) (hs : (pickS f).seq ≠ topN) (hg : (pickS f).gen ≠ topN) (he : f.erases (1 - bankK f) < f.lim) (h : planR f d = (freshL (1 - bankK f) (goodH f (1 - bankK f)) ((pickS f).gen + 1) ((pickS f).seq + 1) d, 0))
theorem plan_is (f : Fl) (d : Nat) : PlanIs f d := by
  by_cases h1 : evenF f = false
  · have e : planR f d = ([], 1) := if_pos h1
    exact .none (by rw [e]; decide) (by rw [e])
  by_cases h2 : bankK f < 0
  · by_cases h3 : f.e0 < f.lim
    · exact .first 0 (Or.inl rfl) h2 h3 (by unfold planR; rw [if_neg h1, if_pos h2, if_pos h3])
    · by_cases h4 : f.e1 < f.lim
      · exact .first 1 (Or.inr rfl) h2 h4 (by unfold planR; rw [if_neg h1, if_pos h2, if_neg h3, if_pos h4])
      · have e : planR f d = ([], 4) := by unfold planR; rw [if_neg h1, if_pos h2, if_neg h3, if_neg h4]
        exact .none (by rw [e]; decide) (by rw [e])
  have hb : bankK f = 0 ∨ bankK f = 1 := by have := bankK_cases f; omega
  by_cases h3 : (pickS f).seq = topN
  · have e : planR f d = ([], 11) := by unfold planR; rw [if_neg h1, if_neg h2, if_pos h3]
    exact .none (by rw [e]; decide) (by rw [e])
  by_cases h4 : 0 < nextF (f.bank (bankK f))
  · obtain ⟨i, hi⟩ : ∃ i, nextF (f.bank (bankK f)) = i + 1 := ⟨nextF (f.bank (bankK f)) - 1, by omega⟩
    exact .app i hb hi h3 (by unfold planR; rw [if_neg h1, if_neg h2, if_neg h3, if_pos h4, hi])
  by_cases h5 : (pickS f).gen = topN
  · have e : planR f d = ([], 11) := by unfold planR; rw [if_neg h1, if_neg h2, if_neg h3, if_neg h4, if_pos h5]
    exact .none (by rw [e]; decide) (by rw [e])
  have ho := other_is hb
  by_cases h6 : f.lim ≤ f.erases (otherN (bankK f))
  · have e : planR f d = ([], 4) := by unfold planR; rw [if_neg h1, if_neg h2, if_neg h3, if_neg h4, if_neg h5, if_pos h6]
    exact .none (by rw [e]; decide) (by rw [e])
  · exact .next hb (by omega) h3 h5 (by rw [← ho]; omega) (by unfold planR; rw [if_neg h1, if_neg h2, if_neg h3, if_neg h4, if_neg h5, if_neg h6, ho])
theorem plan_even {f : Fl} {d : Nat} (h : (planR f d).2 = 0) : evenF f = true := by
  cases h1 : evenF f
  · unfold planR at h; rw [if_pos h1] at h; exact absurd h (by decide)
  · rfl
/-- The next number, of what is read. -/
def wantN (f : Fl) : Nat := if pickE f = 0 then (pickS f).seq + 1 else 1
theorem wantN_some {f : Fl} (hb : bankK f = 0 ∨ bankK f = 1) : wantN f = (pickS f).seq + 1 := if_pos (pickE_zero.2 hb)
theorem wantN_none {f : Fl} (hb : bankK f < 0) : wantN f = 1 := if_neg (fun h => by have := pickE_zero.1 h; omega)
theorem bank48 {f : Fl} {d : Nat} (h : (planR f d).2 = 0) {o : Int} (ho : o = 0 ∨ o = 1) : slotsF (f.bank o).size ≠ 0 ∧ 48 ≤ (f.bank o).size := by
  have h1 := (even_bank (plan_even h) ho).1
  exact ⟨h1, by have := slots_size h1; omega⟩
/-- When all of a plan is done its state is read, under the next number. -/
theorem plan_done {f : Fl} {d : Nat} (hd : d < 18446744073709551616) (h : (planR f d).2 = 0) {cut : Int} (hc : cut < 0 ∨ ((planR f d).1.length : Int) ≤ cut) (m : ByteArray) :
    ∃ g, playR f (planR f d).1 cut m = (g, (planR f d).1.length, 0) ∧ pickE g = 0 ∧ (pickS g).data = d ∧ (pickS g).seq = wantN f := by
  cases plan_is f d with
  | none h1 _ => exact absurd h h1
  | app i hb hn hs he =>
    obtain ⟨t, ht, hp, hc1, hw, hbk, hps, _⟩ := append_step hb hn hs hd cut m
    rw [he] at hc ⊢
    dsimp only at hc
    have hc2 : ¬ (0 ≤ cut ∧ cut < 2) := by have : ((appL (bankK f) ((i + 1 : Nat) : Int) ((pickS f).seq + 1) d).length : Int) = 2 := rfl; omega
    rw [if_neg hc2] at hp
    rw [if_pos (hw hc2)] at hps
    exact ⟨_, hp, pickE_zero.2 (by rw [hbk]; exact hb), by rw [hps], by rw [hps, wantN_some hb]⟩
  | first o ho hb hl he =>
    obtain ⟨hz, h48⟩ := bank48 h ho
    obtain ⟨v, e, hp, hv, hee, hw, _⟩ := fresh_play f ho (goodH f o) 1 1 d h48 hl cut m
    rw [he] at hc ⊢
    dsimp only at hc
    have hc2 : ¬ (0 ≤ cut ∧ cut < ((freshL o (goodH f o) 1 1 d).length : Int)) := by omega
    obtain ⟨rfl, rfl⟩ := hw hc2
    rw [if_neg hc2] at hp
    have hns := bankG_none.1 (show bankG f.b0 f.b1 < 0 from hb)
    obtain ⟨q1, q2⟩ := fresh_pick (f := f) ho (g := 1) (seq := 1) (d := d) (f.erases o + 1) hz (by decide) (by decide) hd (fun x => by
      rcases ho with rfl | rfl
      · exact absurd (hns.2.symm.trans x) (by decide)
      · exact absurd (hns.1.symm.trans x) (by decide))
    exact ⟨_, hp, pickE_zero.2 (by rw [q1]; exact ho), by rw [q2], by rw [q2, wantN_none hb]⟩
  | next hb hn hs hg hl he =>
    have ho : 1 - bankK f = 0 ∨ 1 - bankK f = 1 := by omega
    obtain ⟨hz, h48⟩ := bank48 h ho
    obtain ⟨v, e, hp, hv, hee, hw, _⟩ := fresh_play f ho (goodH f (1 - bankK f)) ((pickS f).gen + 1) ((pickS f).seq + 1) d h48 hl cut m
    rw [he] at hc ⊢
    dsimp only at hc
    have hc2 : ¬ (0 ≤ cut ∧ cut < ((freshL (1 - bankK f) (goodH f (1 - bankK f)) ((pickS f).gen + 1) ((pickS f).seq + 1) d).length : Int)) := by omega
    obtain ⟨rfl, rfl⟩ := hw hc2
    rw [if_neg hc2] at hp
    have g1 := gen_pick hb
    have g2 := genN_lt (f.bank (bankK f))
    have g3 := (lastR_lt (f.bank (bankK f))).1
    have g4 : (pickS f).seq = (lastR (f.bank (bankK f))).seq := by rw [pickS_some hb]
    unfold topN at hs hg
    obtain ⟨q1, q2⟩ := fresh_pick (f := f) ho (g := (pickS f).gen + 1) (seq := (pickS f).seq + 1) (d := d) (f.erases (1 - bankK f) + 1) hz (by omega) (by omega) hd (fun x => by rw [show 1 - (1 - bankK f) = bankK f from by omega, ← g1]; omega)
    exact ⟨_, hp, pickE_zero.2 (by rw [q1]; exact ho), by rw [q2], by rw [q2, wantN_some hb]⟩
/-- An append that is cut anywhere. -/
theorem plan_cuts {f : Fl} {d : Nat} (hd : d < 18446744073709551616) (h : (planR f d).2 = 0) (hl : (planR f d).1.length = 2) (cut : Int) (m : ByteArray) :
    pickE f = 0 ∧ ∃ g n, playR f (planR f d).1 cut m = (g, n, 0) ∧ pickE g = 0 ∧ (pickS g = pickS f ∨ pickS g = ⟨(pickS f).bank, (pickS f).gen, (pickS f).seq + 1, d⟩) := by
  cases plan_is f d with
  | none h1 _ => exact absurd h h1
  | app i hb hn hs he =>
    obtain ⟨t, ht, hp, hc1, hw, hbk, hps, _⟩ := append_step hb hn hs hd cut m
    rw [he]
    refine ⟨pickE_zero.2 hb, _, _, hp, pickE_zero.2 (by rw [hbk]; exact hb), ?_⟩
    by_cases ht2 : t = bs (encL ⟨2, (pickS f).seq + 1, d⟩)
    · right; rw [hps, if_pos ht2]
      have : (pickS f).bank = bankK f := by rw [pickS_some hb]
      rw [this]
    · left; rw [hps, if_neg ht2]
  | first o ho hb hx he => rw [he] at hl; rw [freshL_length] at hl; split at hl <;> exact absurd hl (by decide)
  | next hb hn hs hg hx he => rw [he] at hl; rw [freshL_length] at hl; split at hl <;> exact absurd hl (by decide)
/-- How many ops plans have. -/
theorem plan_length (f : Fl) (d : Nat) : ((planR f d).2 ≠ 0 ∧ (planR f d).1 = []) ∨ ((planR f d).2 = 0 ∧ ((planR f d).1.length = 2 ∨ (planR f d).1.length = 5 ∨ (planR f d).1.length = 6)) := by
  cases plan_is f d with
  | none h1 h2 => exact Or.inl ⟨h1, h2⟩
  | app i hb hn hs he => rw [he]; exact Or.inr ⟨rfl, Or.inl rfl⟩
  | first o ho hb hx he => rw [he]; exact Or.inr ⟨rfl, Or.inr (by rw [freshL_length]; cases goodH f o <;> decide)⟩
  | next hb hn hs hg hx he => rw [he]; exact Or.inr ⟨rfl, Or.inr (by rw [freshL_length]; cases goodH f (1 - bankK f) <;> decide)⟩
end Go.Proofs.YthmpjoiifglbjaaGreat

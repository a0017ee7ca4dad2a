/- Ops of plans, done and torn, as the document says them, on plain data; plain laws: no statement is proved here. -/
import Derived.Test.YtejhbamlnkhfcaaPickPlain
import Derived.Test.YtejhbamlnkhfcaaPower
import Derived.Test.YtejhbamlnkhfcaaPlain
namespace Go.Proofs.Ytejhbamlnkhfcaa
set_option linter.unusedVariables false

/-- A bank whose place j holds other bytes; the bytes of a place. -/
def putT (s : ByteArray) (j : Nat) (t : ByteArray) : ByteArray := s.extract 0 (24 * j) ++ t ++ s.extract (24 * j + 24) s.size
def slL (s : ByteArray) (j : Nat) : List UInt8 := ((bl s).drop (24 * j)).take 24
theorem bl_putT (s : ByteArray) (j : Nat) (t : ByteArray) : bl (putT s j t) = (bl s).take (24 * j) ++ (bl t ++ (bl s).drop (24 * j + 24)) := by
  rw [putT, bl_append, bl_append, bl_extract, bl_extract, List.drop_zero, List.take_of_length_le (l := bl s) (i := s.size) (by rw [bl_length]; exact Nat.le_refl _), List.append_assoc]
theorem putT_size {s : ByteArray} {j : Nat} {t : ByteArray} (hs : 24 * j + 24 ≤ s.size) (ht : t.size = 24) : (putT s j t).size = s.size := by
  unfold putT; simp; omega
theorem slL_length {s : ByteArray} {j : Nat} (hs : 24 * j + 24 ≤ s.size) : (slL s j).length = 24 := by
  rw [slL, List.length_take, List.length_drop, bl_length]; omega
theorem bl_parts (s : ByteArray) (j : Nat) : bl s = (bl s).take (24 * j) ++ (slL s j ++ (bl s).drop (24 * j + 24)) := by
  unfold slL
  rw [show (bl s).drop (24 * j + 24) = ((bl s).drop (24 * j)).drop 24 from by rw [List.drop_drop], List.take_append_drop, List.take_append_drop]
theorem put_self (s : ByteArray) (j : Nat) (t : ByteArray) (h : bl t = slL s j) : putT s j t = s := by
  apply bl_inj; rw [bl_putT, h, ← bl_parts]
theorem put_put {s : ByteArray} {j : Nat} {t u : ByteArray} (hs : 24 * j + 24 ≤ s.size) (ht : t.size = 24) : putT (putT s j t) j u = putT s j u := by
  apply bl_inj
  have h1 : ((bl s).take (24 * j)).length = 24 * j := by rw [List.length_take, bl_length]; omega
  have h2 : (bl t).length = 24 := by rw [bl_length, ht]
  rw [bl_putT, bl_putT, bl_putT]
  have e1 : ((bl s).take (24 * j) ++ (bl t ++ (bl s).drop (24 * j + 24))).take (24 * j) = (bl s).take (24 * j) := by
    rw [List.take_append_of_le_length (by omega), List.take_of_length_le (by omega)]
  have e2 : ((bl s).take (24 * j) ++ (bl t ++ (bl s).drop (24 * j + 24))).drop (24 * j + 24) = (bl s).drop (24 * j + 24) := by
    rw [← List.drop_drop, List.drop_left' h1, List.drop_left' h2]
  rw [e1, e2]
theorem slL_put {s : ByteArray} {j : Nat} {t : ByteArray} (hs : 24 * j + 24 ≤ s.size) (ht : t.size = 24) : slL (putT s j t) j = bl t := by
  have h1 : ((bl s).take (24 * j)).length = 24 * j := by rw [List.length_take, bl_length]; omega
  have h2 : (bl t).length = 24 := by rw [bl_length, ht]
  rw [slL, bl_putT, List.drop_left' h1, List.take_left' h2]
theorem slL_put_ne {s : ByteArray} {i j : Nat} {t : ByteArray} (hs : 24 * j + 24 ≤ s.size) (ht : t.size = 24) (hij : i ≠ j) : slL (putT s j t) i = slL s i := by
  have h1 : ((bl s).take (24 * j)).length = 24 * j := by rw [List.length_take, bl_length]; omega
  have h2 : (bl t).length = 24 := by rw [bl_length, ht]
  rcases Nat.lt_or_gt_of_ne hij with h | h
  · rw [slL, bl_putT, slL]
    rw [List.drop_append_of_le_length (by omega), List.take_append_of_le_length (by rw [List.length_drop]; omega), List.drop_take, List.take_take, Nat.min_eq_left (by omega)]
  · rw [slL, bl_putT, slL]
    rw [show 24 * i = 24 * j + (24 + (24 * i - 24 * j - 24)) from by omega, ← List.drop_drop, List.drop_left' h1, ← List.drop_drop, List.drop_left' h2, List.drop_drop]
    congr 2; omega
/-- Bytes laid within one place. -/
theorem ext_put {s x : ByteArray} {j a n : Nat} (hs : 24 * j + 24 ≤ s.size) (ha : a + n ≤ 24) :
    s.extract 0 (24 * j + a) ++ x ++ s.extract (24 * j + a + n) s.size = putT s j (bs ((slL s j).take a ++ (bl x ++ (slL s j).drop (a + n)))) := by
  apply bl_inj
  rw [bl_append, bl_append, bl_extract, bl_extract, List.drop_zero, List.take_of_length_le (l := bl s) (i := s.size) (by rw [bl_length]; exact Nat.le_refl _), bl_putT, bl_bs]
  have e1 : (bl s).take (24 * j + a) = (bl s).take (24 * j) ++ (slL s j).take a := by
    rw [List.take_add, slL, List.take_take, Nat.min_eq_left (by omega)]
  have e2 : (bl s).drop (24 * j + a + n) = (slL s j).drop (a + n) ++ (bl s).drop (24 * j + 24) := by
    have e3 : (bl s).drop (24 * j + 24) = ((bl s).drop (24 * j + (a + n))).drop (24 - (a + n)) := by rw [List.drop_drop]; congr 1; omega
    rw [e3, slL, List.drop_take, List.drop_drop, show 24 * j + a + n = 24 * j + (a + n) from by omega, List.take_append_drop]
  rw [e1, e2]
  simp only [List.append_assoc]
theorem ext_slL {s : ByteArray} {j a n : Nat} (ha : a + n ≤ 24) : bl (s.extract (24 * j + a) (24 * j + a + n)) = ((slL s j).drop a).take n := by
  rw [bl_extract, List.drop_take, show 24 * j + a + n - (24 * j + a) = n from by omega, slL, List.drop_take, List.drop_drop, List.take_take, Nat.min_eq_left (by omega)]
theorem spliceT_put {s d m : ByteArray} {j a : Nat} (hs : 24 * j + 24 ≤ s.size) (ha : a + d.size ≤ 24) :
    spliceT s (24 * j + a) d m = putT s j (bs ((slL s j).take a ++ (tornL (((slL s j).drop a).take d.size) (bl d) (bl m) ++ (slL s j).drop (a + d.size)))) := by
  rw [spliceT, ext_put hs ha, tornB, bl_bs, ext_slL ha]
theorem splice_put {s d : ByteArray} {j a : Nat} (hs : 24 * j + 24 ≤ s.size) (ha : a + d.size ≤ 24) :
    splice s (24 * j + a) d = putT s j (bs ((slL s j).take a ++ (andL (((slL s j).drop a).take d.size) (bl d) ++ (slL s j).drop (a + d.size)))) := by
  rw [splice, ext_put hs ha, andB, bl_bs, ext_slL ha]
theorem blank_andL {n : Nat} {d : List UInt8} (h : d.length = n) : andL (List.replicate n 255) d = d := by
  unfold andL
  rw [List.length_replicate]
  refine upto_eq_list h 0 fun i hi => ?_
  unfold andF
  rw [gd_replicate n i 255 0 hi, gd_low d i 255 0 (by omega)]
  apply ext8; intro b hb; simp only [tB_band, tB_255 b hb]; cases tB (gd d i 0) b <;> rfl
theorem dec_five {l : List UInt8} (h : decE l = 5) : l = List.replicate 24 255 := by
  unfold decE at h
  split at h
  · exact absurd h (by decide)
  · rename_i h1
    split at h
    · rename_i h2
      refine List.eq_replicate_iff.2 ⟨by omega, fun b hb => ?_⟩
      have := List.all_eq_true.1 h2 b hb
      simpa using this
    · repeat' (split at h <;> first | exact absurd h (by decide) | skip)
theorem stOf_zero {l : List UInt8} {i : Int} (h : stOf l i = 0) : l = List.replicate 24 255 := by
  unfold stOf at h
  split at h
  · rename_i h5; exact dec_five h5
  · split at h <;> exact absurd h (by decide)
theorem stOf_two {l : List UInt8} {i : Int} (h : stOf l i = 2) : decE l = 0 ∧ ((decR l).kind = 1 ↔ i = 0) := by
  unfold stOf at h
  split at h
  · exact absurd h (by decide)
  · split at h
    · rename_i h2; exact h2
    · exact absurd h (by decide)
theorem slotT_slL {s : ByteArray} {k : Nat} (h : slotsF s.size ≠ 0) (hk : (k : Int) ≤ slotsF s.size) : bl (slotT s (k : Int)) = slL s k := bl_slotT h hk
theorem state_slL {s : ByteArray} {k : Nat} (h : slotsF s.size ≠ 0) (hk : (k : Int) ≤ slotsF s.size) : stateF s (k : Int) = stOf (slL s k) (k : Int) := by
  rw [stateF, slotT_slL h hk]
/-- What a bank says behind a place that was blank, and next. -/
theorem read_put {s t : ByteArray} {i : Nat} {r : Rec} (hs : soundB s = true) (hn : nextF s = i + 1) (ht : t.size = 24) (hr : r.ok) (hk : 2 ≤ r.kind ∧ r.kind ≤ 3) (hq : (lastR s).seq ≤ r.seq)
    (hc : t = bs (encL r) ∨ stOf (bl t) ((i : Int) + 1) ≠ 2) :
    soundB (putT s (i + 1) t) = true ∧ genN (putT s (i + 1) t) = genN s ∧ lastR (putT s (i + 1) t) = (if t = bs (encL r) then r else lastR s) ∧ slotsF (putT s (i + 1) t).size = slotsF s.size := by
  have hz := sound_slots hs
  obtain ⟨hle, hb, _⟩ := next_all hn
  have hN := slotsN_eq s
  have hsz := slots_size hz
  have hfit : 24 * (i + 1) + 24 ≤ s.size := by omega
  have hsame : slotsF (putT s (i + 1) t).size = slotsF s.size := by rw [putT_size hfit ht]
  by_cases h0 : stOf (bl t) ((i : Int) + 1) = 0
  · have hrep := stOf_zero h0
    have hbl : slL s (i + 1) = List.replicate 24 255 := by
      have h1 := hb i (Nat.le_refl _) (by omega)
      rw [show (i : Int) + 1 = ((i + 1 : Nat) : Int) from by omega, state_slL hz (by omega)] at h1
      exact stOf_zero h1
    have hne : t ≠ bs (encL r) := fun e => by
      have := st_enc hr hk (i := (i : Int) + 1) (by omega)
      rw [e, bl_bs, this] at h0; exact absurd h0 (by decide)
    rw [put_self s (i + 1) t (by rw [hrep, hbl]), if_neg hne]
    exact ⟨hs, rfl, rfl, rfl⟩
  · obtain ⟨hg, hl⟩ := sound_parts hs
    have hp := scan_put (s := s) (t := t) hn ht h0
    dsimp only at hp
    rw [show s.extract 0 (24 * (i + 1)) ++ t ++ s.extract (24 * (i + 1) + 24) s.size = putT s (i + 1) t from rfl] at hp
    obtain ⟨p1, q2, q3, p4, p5, q6⟩ := hp
    have hgen : genN (putT s (i + 1) t) = genN s := by unfold genN; rw [q2, q3]
    have hge : genE (putT s (i + 1) t) = 0 := gen_state.2 (q2.trans (gen_state.1 hg))
    obtain ⟨b, hb1⟩ : ∃ b, lastG s (slotsN s) = some b := by
      unfold lastE at hl
      cases h : lastG s (slotsN s) with
      | none => rw [if_pos h] at hl; cases hl
      | some b => exact ⟨b, rfl⟩
    have hbr : lastR s = b := by unfold lastR; rw [hb1]; rfl
    by_cases he : t = bs (encL r)
    · have hst : stOf (bl t) ((i : Int) + 1) = 2 := by rw [he, bl_bs]; exact st_enc hr hk (by omega)
      have hd : decR (bl t) = r := by rw [he, bl_bs]; exact decR_body hr ⟨by omega, hk.2⟩
      rw [if_pos ⟨hst, fun c hc => by rw [hb1] at hc; cases hc; rw [hd, ← hbr]; exact hq⟩, hd] at q6
      refine ⟨sound_mk hge ?_, hgen, ?_, hsame⟩
      · unfold lastE; rw [q6]; rfl
      · rw [if_pos he]; unfold lastR; rw [q6]; rfl
    · have hst : ¬ stOf (bl t) ((i : Int) + 1) = 2 := hc.resolve_left he
      rw [if_neg (fun x => hst x.1)] at q6
      refine ⟨sound_mk hge ?_, hgen, ?_, hsame⟩
      · unfold lastE; rw [q6, hb1]; rfl
      · rw [if_neg he]; unfold lastR; rw [q6]
/-- Ops that all go well, one behind the other. -/
def okRun : Fl → List PwOp → Prop
  | _, [] => True
  | f, o :: l => doErr f o = 0 ∧ okRun (doF f o) l
def runF : Fl → List PwOp → Fl
  | f, [] => f
  | f, o :: l => runF (doF f o) l
theorem playG_run (cut : Int) (m : ByteArray) : ∀ (l : List PwOp) (f : Fl) (i : Nat), okRun f l → (cut < i ∨ (i : Int) + l.length ≤ cut) → playG cut m l f i = (runF f l, i + l.length, 0)
  | [], f, i, _, _ => rfl
  | o :: l, f, i, h, hc => by
    have hlen : (o :: l).length = l.length + 1 := rfl
    rw [playG, if_neg (by omega), if_pos h.1, playG_run cut m l (doF f o) (i + 1) h.2 (by omega), runF, hlen, show i + 1 + l.length = i + (l.length + 1) from by omega]
theorem playG_cut (m : ByteArray) : ∀ (l : List PwOp) (f : Fl) (i k : Nat) (o : PwOp), okRun f l → l[k]? = some o → playG ((i + k : Nat) : Int) m l f i = (tearF (runF f (l.take k)) o m, i + k, 0)
  | [], f, i, k, o, _, h => by cases h
  | a :: l, f, i, 0, o, ho, h => by
    cases h
    rw [playG, if_pos (by omega), ho.1]; rfl
  | a :: l, f, i, k + 1, o, ho, h => by
    rw [playG, if_neg (by omega), if_pos ho.1, show i + (k + 1) = i + 1 + k from by omega, playG_cut m l (doF f a) (i + 1) k o ho.2 (by simpa using h)]
    rfl
theorem play_all {f : Fl} {l : List PwOp} {cut : Int} {m : ByteArray} (h : okRun f l) (hc : cut < 0 ∨ (l.length : Int) ≤ cut) : playR f l cut m = (runF f l, l.length, 0) := by
  have := playG_run cut m l f 0 h (by omega)
  rw [Nat.zero_add] at this; exact this
theorem play_at {f : Fl} {l : List PwOp} {k : Nat} {o : PwOp} {m : ByteArray} (h : okRun f l) (hk : l[k]? = some o) : playR f l (k : Int) m = (tearF (runF f (l.take k)) o m, k, 0) := by
  have := playG_cut m l f 0 k o h hk
  rw [Nat.zero_add] at this; exact this
end Go.Proofs.Ytejhbamlnkhfcaa

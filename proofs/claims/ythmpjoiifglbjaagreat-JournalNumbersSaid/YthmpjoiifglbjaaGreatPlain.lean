/- Plain laws of layer 1's words on lists of bytes: no statement is proved here. -/
import Derived.Test.YthmpjoiifglbjaaGreatBase
import Derived.Laws.OwnMore
namespace Go.Proofs.YthmpjoiifglbjaaGreat
set_option linter.unusedVariables false

theorem gd_upto (f : Nat → UInt8) (n i : Nat) (d : UInt8) : gd (upto f n) i d = if i < n then f i else d := by
  unfold gd
  by_cases h : i < n
  · rw [upto_get f n i h, if_pos h]; rfl
  · rw [List.getElem?_eq_none (by rw [upto_length]; omega), if_neg h]; rfl
theorem upto_congr {α : Type} {f g : Nat → α} {n : Nat} (h : ∀ i, i < n → f i = g i) : upto f n = upto g n := by
  unfold upto; exact List.map_congr_left fun i hi => h i (List.mem_range.1 hi)
theorem upto_gd (l : List UInt8) (d : UInt8) : upto (fun i => gd l i d) l.length = l := by
  apply List.ext_getElem
  · simp [upto]
  · intro i h1 h2; simp [upto, gd, h2]
theorem gd_low (l : List UInt8) (i : Nat) (d e : UInt8) (h : i < l.length) : gd l i d = gd l i e := by
  simp [gd, h]
theorem upto_eq_list {f : Nat → UInt8} {l : List UInt8} {n : Nat} (hn : l.length = n) (d : UInt8) (h : ∀ i, i < n → f i = gd l i d) : upto f n = l := by
  rw [upto_congr h, ← hn, upto_gd]

theorem and_torn (o w m : List UInt8) : andL (tornL o w m) w = andL o w := by
  unfold andL
  rw [tornL_length]
  refine upto_congr fun i hi => ?_
  unfold andF
  rw [tornL, gd_upto, if_pos hi, tornF]
  apply ext8; intro b hb
  simp only [tb, tB_bor, tB_band, tB_bandn _ _ _ hb]
  cases tB (gd o i 0) b <;> cases tB (gd w i 255) b <;> cases tB (gd m i 0) b <;> rfl
theorem pop_mono {x y : UInt8} (h : ∀ b, b < 8 → tB x b = true → tB y b = true) : pop x ≤ pop y := by
  have hb : ∀ b, b < 8 → bitI x b ≤ bitI y b := by
    intro b hb
    rw [bitI_eq, bitI_eq]
    have := h b hb
    cases hx : tB x b with
    | false => simp
    | true => rw [this hx]; exact Nat.le_refl _
  have := hb 0 (by omega); have := hb 1 (by omega); have := hb 2 (by omega); have := hb 3 (by omega)
  have := hb 4 (by omega); have := hb 5 (by omega); have := hb 6 (by omega); have := hb 7 (by omega)
  unfold pop; omega
theorem pop_zero : pop 0 = 0 := by decide
theorem bitsTo_zero {o g : List UInt8} {n : Nat} (h : ∀ i, i < n → bandn (gd o i 0) (gd g i 255) = 0) : bitsTo o g n = 0 := by
  induction n with
  | zero => rfl
  | succ n ih => rw [bitsTo_succ, ih (fun i hi => h i (by omega)), bitsF, h n (by omega), pop_zero]
theorem bitsTo_mono {o g o' g' : List UInt8} {n : Nat} (h : ∀ i, i < n → bitsF o g i ≤ bitsF o' g' i) : bitsTo o g n ≤ bitsTo o' g' n := by
  induction n with
  | zero => exact Nat.le_refl _
  | succ n ih => rw [bitsTo_succ, bitsTo_succ]; have := ih (fun i hi => h i (by omega)); have := h n (by omega); omega
theorem bits_torn_old (o w m : List UInt8) : bitsL (tornL o w m) o = 0 := by
  unfold bitsL
  rw [tornL_length]
  refine bitsTo_zero fun i hi => ?_
  rw [tornL, gd_upto, if_pos hi, tornF, gd_low o i 255 0 hi]
  apply ext8; intro b hb
  simp only [tb, tB_bor, tB_band, tB_bandn _ _ _ hb, tB_zero]
  cases tB (gd o i 0) b <;> cases tB (gd w i 255) b <;> cases tB (gd m i 0) b <;> rfl
theorem bits_old_torn (o w m : List UInt8) : bitsL o (tornL o w m) ≤ bitsL o w := by
  unfold bitsL
  refine bitsTo_mono fun i hi => ?_
  unfold bitsF
  rw [tornL, gd_upto, if_pos hi, tornF]
  refine pop_mono fun b hb => ?_
  simp only [tb, tB_bor, tB_band, tB_bandn _ _ _ hb]
  cases tB (gd o i 0) b <;> cases tB (gd w i 255) b <;> cases tB (gd m i 0) b <;> decide

theorem torn_none (o w : List UInt8) : tornL o w [] = o := by
  refine upto_eq_list rfl 0 fun i hi => ?_
  rw [tornF, show gd [] i 0 = 0 from rfl]
  apply ext8; intro b hb
  simp only [tb, tB_bor, tB_band, tB_bandn _ _ _ hb, tB_zero]
  cases tB (gd o i 0) b <;> cases tB (gd w i 255) b <;> rfl
theorem gd_replicate (n i : Nat) (x d : UInt8) (h : i < n) : gd (List.replicate n x) i d = x := by simp [gd, h]
theorem torn_all (o w : List UInt8) : tornL o w (List.replicate o.length 255) = andL o w := by
  refine upto_congr fun i hi => ?_
  rw [tornF, andF, gd_replicate _ _ _ _ hi]
  apply ext8; intro b hb
  simp only [tb, tB_bor, tB_band, tB_bandn _ _ _ hb, tB_255 b hb]
  cases tB (gd o i 0) b <;> cases tB (gd w i 255) b <;> rfl
theorem and_and (o w : List UInt8) : andL (andL o w) w = andL o w := by
  refine upto_eq_list (by rw [andL_length]) 0 fun i hi => ?_
  rw [andF]
  rw [andL_length] at hi
  rw [andL, gd_upto, if_pos hi, andF]
  apply ext8; intro b hb
  simp only [tB_band]
  cases tB (gd o i 0) b <;> cases tB (gd w i 255) b <;> rfl
theorem and_all (o : List UInt8) : andL o (List.replicate o.length 255) = o := by
  refine upto_eq_list rfl 0 fun i hi => ?_
  rw [andF, gd_replicate _ _ _ _ hi]
  apply ext8; intro b hb
  simp only [tB_band, tB_255 b hb]
  cases tB (gd o i 0) b <;> rfl
theorem bits_none (o : List UInt8) : bitsL o [] = 0 := by
  refine bitsTo_zero fun i hi => ?_
  rw [show gd [] i 255 = 255 from rfl]
  apply ext8; intro b hb
  simp only [tB_bandn _ _ _ hb, tB_255 b hb, tB_zero]
  cases tB (gd o i 0) b <;> rfl
theorem bits_self (o : List UInt8) : bitsL o o = 0 := by
  refine bitsTo_zero fun i hi => ?_
  rw [gd_low o i 255 0 hi]
  apply ext8; intro b hb
  simp only [tB_bandn _ _ _ hb, tB_zero]
  cases tB (gd o i 0) b <;> rfl

/-- The bits of two masks, at the places of o. -/
def bothF (a b : List UInt8) (i : Nat) : UInt8 := bor (gd a i 0) (gd b i 0)
theorem torn_torn (o w a b : List UInt8) : tornL (tornL o w a) w b = tornL o w (upto (bothF a b) o.length) := by
  unfold tornL
  rw [upto_length]
  refine upto_congr fun i hi => ?_
  unfold tornF
  rw [gd_upto, if_pos hi, gd_upto, if_pos hi, bothF]
  apply ext8; intro c hc
  simp only [tb, tB_bor, tB_band, tB_bandn _ _ _ hc]
  cases tB (gd o i 0) c <;> cases tB (gd w i 255) c <;> cases tB (gd a i 0) c <;> cases tB (gd b i 0) c <;> rfl

theorem may_torn (o w m : List UInt8) : mayL o w (tornL o w m) = true := by
  refine (mayL_iff _ _ _).2 ⟨tornL_length _ _ _, fun i hi => ?_⟩
  rw [mayF_eq]
  refine (mayB_iff _ _ _).2 fun b hb => ?_
  rw [tornL, gd_upto, if_pos hi, tornF]
  simp only [okB, bitI_inj, tb, tB_bor, tB_band, tB_bandn _ _ _ hb]
  cases tB (gd o i 0) b <;> cases tB (gd w i 255) b <;> cases tB (gd m i 0) b <;> decide
/-- The bits that went. -/
def goneF (o g : List UInt8) (i : Nat) : UInt8 := bandn (gd o i 0) (gd g i 0)
theorem torn_gone (o w g : List UInt8) (h : mayL o w g = true) : tornL o w (upto (goneF o g) o.length) = g := by
  obtain ⟨hl, h⟩ := (mayL_iff _ _ _).1 h
  refine upto_eq_list hl 0 fun i hi => ?_
  have h2 := (mayB_iff _ _ _).1 ((mayF_eq o w g i) ▸ h i hi)
  rw [tornF, gd_upto, if_pos hi, goneF]
  apply ext8; intro b hb
  have h3 := h2 b hb
  simp only [okB, bitI_inj, tB_band] at h3
  simp only [tb, tB_bor, tB_band, tB_bandn _ _ _ hb]
  revert h3
  cases tB (gd o i 0) b <;> cases tB (gd w i 255) b <;> cases tB (gd g i 0) b <;> decide

/-- The bits that go. -/
def goF (o w m : List UInt8) (i : Nat) : UInt8 := band (bandn (gd o i 0) (gd w i 255)) (gd m i 0)
def goTo (o w m : List UInt8) (k : Nat) : Nat := ((List.range k).map fun i => pop (goF o w m i)).sum
theorem goTo_succ (o w m : List UInt8) (k : Nat) : goTo o w m (k + 1) = goTo o w m k + pop (goF o w m k) := by simp [goTo, List.range_succ]
theorem goTo_le (o w m : List UInt8) (k : Nat) : goTo o w m k ≤ 8 * k := by
  induction k with
  | zero => simp [goTo]
  | succ k ih => rw [goTo_succ]; have := pop_le (goF o w m k); omega
theorem goF_zero (o w m : List UInt8) (i : Nat) (h : ¬ (i < m.length ∧ i < w.length)) : goF o w m i = 0 := by
  unfold goF
  apply ext8; intro b hb
  simp only [tB_band, tB_bandn _ _ _ hb, tB_zero]
  by_cases h1 : i < m.length
  · have h2 : ¬ i < w.length := fun h2 => h ⟨h1, h2⟩
    have : gd w i 255 = 255 := by simp [gd, h2]
    rw [this, tB_255 b hb]
    cases tB (gd o i 0) b <;> rfl
  · have : gd m i 0 = 0 := by simp [gd, h1]
    rw [this, tB_zero]
    simp
theorem goTo_more (o w m : List UInt8) (k j : Nat) (h : ∀ i, k ≤ i → i < k + j → ¬ (i < m.length ∧ i < w.length)) : goTo o w m (k + j) = goTo o w m k := by
  induction j with
  | zero => rfl
  | succ j ih =>
    rw [show k + (j + 1) = (k + j) + 1 from rfl, goTo_succ, ih (fun i h1 h2 => h i h1 (by omega)), goF_zero _ _ _ _ (h (k + j) (by omega) (by omega)), pop_zero]; rfl
theorem bits_torn_go (o w m : List UInt8) : bitsL o (tornL o w m) = goTo o w m o.length := by
  unfold bitsL bitsTo goTo
  congr 1
  refine List.map_congr_left fun i hi => ?_
  have hi := List.mem_range.1 hi
  unfold bitsF
  rw [tornL, gd_upto, if_pos hi, tornF, goF]
  congr 1
  apply ext8; intro b hb
  simp only [tb, tB_bor, tB_band, tB_bandn _ _ _ hb]
  cases tB (gd o i 0) b <;> cases tB (gd w i 255) b <;> cases tB (gd m i 0) b <;> rfl
theorem bs_push (l : List UInt8) (x : UInt8) : bs l ++ bs [x] = bs (l ++ [x]) := by
  apply ByteArray.ext
  simp [bs, ByteArray.data_append]
theorem and_tornB (o w m : ByteArray) : andB (tornB o w m) w = andB o w := by rw [andB, tornB, bl_bs, and_torn]; rfl
theorem bits_tornB_old (o w m : ByteArray) : bitsL (bl (tornB o w m)) (bl o) = 0 := by rw [tornB, bl_bs, bits_torn_old]
theorem bits_old_tornB (o w m : ByteArray) : bitsL (bl o) (bl (tornB o w m)) ≤ bitsL (bl o) (bl w) := by rw [tornB, bl_bs]; exact bits_old_torn _ _ _
theorem torn_noneB (o w : ByteArray) : tornB o w ⟨#[]⟩ = o := by rw [tornB, show bl ⟨#[]⟩ = [] from rfl, torn_none, bs_bl]
theorem torn_allB (o w : ByteArray) : tornB o w (bs (List.replicate o.size 255)) = andB o w := by rw [tornB, bl_bs, ← bl_length o, torn_all]; rfl
theorem and_andB (o w : ByteArray) : andB (andB o w) w = andB o w := by rw [andB, andB, bl_bs, and_and]
theorem and_allB (o : ByteArray) : andB o (bs (List.replicate o.size 255)) = o := by rw [andB, bl_bs, ← bl_length o, and_all, bs_bl]
theorem bits_noneB (o : ByteArray) : bitsL (bl o) (bl ⟨#[]⟩) = 0 := bits_none _
theorem bits_selfB (o : ByteArray) : bitsL (bl o) (bl o) = 0 := bits_self _
theorem torn_tornB (o w a b : ByteArray) : tornB (tornB o w a) w b = tornB o w (bs (upto (bothF (bl a) (bl b)) o.size)) := by
  rw [tornB, tornB, bl_bs, torn_torn, tornB, bl_bs, bl_length]
theorem may_tornB (o w m : ByteArray) : mayL (bl o) (bl w) (bl (tornB o w m)) = true := by rw [tornB, bl_bs, may_torn]
theorem torn_goneB (o w g : ByteArray) (h : mayL (bl o) (bl w) (bl g) = true) : tornB o w (bs (upto (goneF (bl o) (bl g)) o.size)) = g := by
  rw [tornB, bl_bs, ← bl_length o, torn_gone _ _ _ h, bs_bl]
theorem may_size {o w g : ByteArray} (h : mayL (bl o) (bl w) (bl g) = true) : g.size = o.size := by
  have := ((mayL_iff _ _ _).1 h).1; rwa [bl_length, bl_length] at this
theorem bits_tornB_go (o w m : ByteArray) : bitsL (bl o) (bl (tornB o w m)) = goTo (bl o) (bl w) (bl m) o.size := by rw [tornB, bl_bs, bits_torn_go, bl_length]
theorem bor_zero (x : UInt8) : bor x 0 = x := by
  apply ext8; intro b hb; simp only [tB_bor, tB_zero]; cases tB x b <;> rfl
theorem zero_bor (x : UInt8) : bor 0 x = x := by
  apply ext8; intro b hb; simp only [tB_bor, tB_zero]; cases tB x b <;> rfl
theorem b8_or0 (y : UInt8) : bits .or .u8 0 (y.toNat : Int) = (y.toNat : Int) := by
  have := b8_or 0 y
  rw [zero_bor] at this; exact this
/-- A slice of one byte that is new, as a text. -/
theorem one_string {P : Program} {src dst e : TypeId} (hs : P.underlying src = some (.slice e)) (he : P.underlying e = some (.int .u8)) (hd : P.underlying dst = some .string) (w : World) (x : UInt8) :
    (convert src dst (.slice (some ⟨w.heap.size, 0, none⟩) 1 1)).run P (w.alloc (.cells #[.int .u8 (x.toNat : Int)] e)) = .ok (.string (bs [x])) (w.alloc (.cells #[.int .u8 (x.toNat : Int)] e)) :=
  owns_string (base := 0) (n := 1) (l := [x]) hs he hd (World.ownsRow_lit w #[.int .u8 (x.toNat : Int)] 1 (Nat.zero_le _) (by decide) rfl)
theorem one_string_drew {P : Program} {src dst e : TypeId} (hs : P.underlying src = some (.slice e)) (he : P.underlying e = some (.int .u8)) (hd : P.underlying dst = some .string) (w : World) (x : UInt8) :
    (convert src dst (.slice (some ⟨w.heap.size, 0, none⟩) 1 1)).run P ((w.alloc (.cells #[.int .u8 (x.toNat : Int)] e)).drew) = .ok (.string (bs [x])) ((w.alloc (.cells #[.int .u8 (x.toNat : Int)] e)).drew) :=
  owns_string (base := 0) (n := 1) (l := [x]) hs he hd (show (w.alloc (.cells #[.int .u8 (x.toNat : Int)] e)).ownsRow 0 e 1 (.slice (some ⟨w.heap.size, 0, none⟩) 1 1) 1 [b8v x] from World.ownsRow_lit w #[.int .u8 (x.toNat : Int)] 1 (Nat.zero_le _) (by decide) rfl)
theorem every_u8 {p : UInt8 → Prop} (h : ∀ n : Fin 256, p (UInt8.ofNat n.1)) (x : UInt8) : p x := by
  have := h ⟨x.toNat, x.toNat_lt⟩
  rwa [UInt8.ofNat_toNat] at this
/-- A byte without its lowest bit. -/
def kern (x : UInt8) : UInt8 := band x (UInt8.ofNat (x.toNat - 1))
theorem pop_kern (x : UInt8) (h : x ≠ 0) : pop (kern x) + 1 = pop x :=
  every_u8 (p := fun x => x ≠ 0 → pop (kern x) + 1 = pop x) (by decide +kernel) x h
theorem b8_kern (x : UInt8) (h : x ≠ 0) : bits .and .u8 (x.toNat : Int) (((x.toNat : Int) - 1) % 256) = ((kern x).toNat : Int) := by
  have h0 : x.toNat ≠ 0 := fun e => h (UInt8.toNat_inj.1 e)
  have hl := x.toNat_lt
  have h1 : ((x.toNat : Int) - 1) % 256 = ((UInt8.ofNat (x.toNat - 1)).toNat : Int) := by
    rw [UInt8.toNat_ofNat']; omega
  rw [h1, b8_and]; rfl
theorem goTo_stop (o w m : List UInt8) (k : Nat) (hk : k ≤ o.length) (h : ¬ (k < m.length ∧ k < w.length) ∨ k = o.length) : goTo o w m o.length = goTo o w m k := by
  rcases h with h | h
  · have := goTo_more o w m k (o.length - k) (fun i h1 h2 h3 => h ⟨by omega, by omega⟩)
    rwa [show k + (o.length - k) = o.length from by omega] at this
  · rw [h]
end Go.Proofs.YthmpjoiifglbjaaGreat

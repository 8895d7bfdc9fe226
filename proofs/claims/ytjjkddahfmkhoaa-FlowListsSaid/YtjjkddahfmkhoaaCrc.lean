/-
  The remainder that finds bursts: what CRC-32, bit by bit, makes of bytes; it is linear, and no burst of 32 bits is lost in it.
-/
namespace Go.Proofs.Ytjjkddahfmkhoaa
set_option linter.unusedVariables false
set_option linter.unusedSimpArgs false

abbrev B32 := BitVec 32
def poly : B32 := 0xedb88320#32
/-- One bit's step. -/
def cstep (c : B32) : B32 := if c.getLsbD 0 then (c >>> 1) ^^^ poly else c >>> 1
def csteps : Nat → B32 → B32
  | 0, c => c
  | n + 1, c => csteps n (cstep c)
theorem csteps_add (m n : Nat) (c : B32) : csteps (m + n) c = csteps n (csteps m c) := by
  induction m generalizing c with
  | zero => simp [csteps]
  | succ m ih => rw [Nat.succ_add]; exact ih _

theorem cstep_xor (a b : B32) : cstep (a ^^^ b) = cstep a ^^^ cstep b := by
  unfold cstep
  rw [BitVec.getLsbD_xor, BitVec.ushiftRight_xor_distrib]
  cases a.getLsbD 0 <;> cases b.getLsbD 0 <;> simp
  · rw [BitVec.xor_assoc]
  · rw [BitVec.xor_assoc, BitVec.xor_assoc, BitVec.xor_comm poly]
  · rw [BitVec.xor_assoc, BitVec.xor_comm poly, BitVec.xor_assoc]; simp
theorem cstep_zero : cstep 0#32 = 0#32 := by decide
theorem csteps_xor (n : Nat) (a b : B32) : csteps n (a ^^^ b) = csteps n a ^^^ csteps n b := by
  induction n generalizing a b with
  | zero => rfl
  | succ n ih => simp only [csteps]; rw [cstep_xor, ih]
theorem csteps_zero (n : Nat) : csteps n 0#32 = 0#32 := by
  induction n with
  | zero => rfl
  | succ n ih => simp only [csteps]; rw [cstep_zero, ih]
theorem cstep_eq_zero {c : B32} (h : cstep c = 0#32) : c = 0#32 := by
  unfold cstep at h
  by_cases h0 : c.getLsbD 0 = true
  · rw [if_pos h0] at h
    have : ((c >>> 1) ^^^ poly).getLsbD 31 = true := by
      rw [BitVec.getLsbD_xor, BitVec.getLsbD_ushiftRight, BitVec.getLsbD_of_ge c (1 + 31) (by decide)]
      decide
    rw [h] at this
    exact absurd this (by decide)
  · rw [if_neg h0] at h
    apply BitVec.eq_of_getLsbD_eq
    intro i hi
    rw [BitVec.getLsbD_zero]
    match i, hi with
    | 0, _ => simpa using h0
    | i + 1, hi =>
      have : (c >>> 1).getLsbD i = false := by rw [h]; simp
      rw [BitVec.getLsbD_ushiftRight, Nat.add_comm] at this
      exact this
theorem csteps_eq_zero {n : Nat} {c : B32} (h : csteps n c = 0#32) : c = 0#32 := by
  induction n generalizing c with
  | zero => exact h
  | succ n ih => exact cstep_eq_zero (ih h)
theorem csteps_inj {n : Nat} {a b : B32} (h : csteps n a = csteps n b) : a = b := by
  have e : csteps n (a ^^^ b) = 0#32 := by rw [csteps_xor, h, BitVec.xor_self]
  have := csteps_eq_zero e
  exact BitVec.xor_eq_zero_iff.1 this

/-- What is shifted up comes down again, where nothing was lost. -/
theorem cstep_shl (y : B32) (h : y.getLsbD 31 = false) : cstep (y <<< 1) = y := by
  unfold cstep
  rw [if_neg (by simp)]
  apply BitVec.eq_of_getLsbD_eq
  intro i hi
  rw [BitVec.getLsbD_ushiftRight, BitVec.getLsbD_shiftLeft]
  by_cases h1 : i = 31
  · subst h1; rw [h]; simp
  · have : 1 + i < 32 := by omega
    simp [this]
theorem csteps_shl (i t : Nat) (y : B32) (h : ∀ k, 32 - i ≤ k → y.getLsbD k = false) (hi : i ≤ 32) : csteps (i + t) (y <<< i) = csteps t y := by
  induction i with
  | zero => simp
  | succ i ih =>
    have e : y <<< (i + 1) = (y <<< i) <<< 1 := BitVec.shiftLeft_add y i 1
    rw [e, Nat.add_right_comm]
    show csteps (i + t) (cstep ((y <<< i) <<< 1)) = _
    rw [cstep_shl, ih (fun k hk => h k (by omega)) (by omega)]
    rw [BitVec.getLsbD_shiftLeft]
    have := h (31 - i) (by omega)
    simp [this]

/-- A byte as a word. -/
def byteW (x : Int) : B32 := BitVec.ofInt 32 x
def U8 (x : Int) : Prop := 0 ≤ x ∧ x ≤ 255
theorem byteW_toNat {x : Int} (h : U8 x) : (byteW x).toNat = x.toNat := by
  unfold byteW U8 at *; rw [BitVec.toNat_ofInt]; omega
theorem byteW_high {x : Int} (h : U8 x) (k : Nat) (hk : 8 ≤ k) : (byteW x).getLsbD k = false := by
  rw [← BitVec.testBit_toNat, byteW_toNat h]
  apply Nat.testBit_lt_two_pow
  have : 2 ^ 8 ≤ 2 ^ k := Nat.pow_le_pow_right (by decide) hk
  unfold U8 at h
  omega
theorem byteW_inj {x y : Int} (hx : U8 x) (hy : U8 y) (h : byteW x = byteW y) : x = y := by
  have := congrArg BitVec.toNat h
  rw [byteW_toNat hx, byteW_toNat hy] at this
  unfold U8 at *
  omega
/-- The xor of two bytes. -/
def xorB (a b : Int) : Int := ((BitVec.ofInt 8 a ^^^ BitVec.ofInt 8 b).toNat : Int)
theorem xorB_U8 (a b : Int) : U8 (xorB a b) := by
  unfold xorB U8
  have := (BitVec.ofInt 8 a ^^^ BitVec.ofInt 8 b).isLt
  omega
theorem byteW_xor {a b : Int} (ha : U8 a) (hb : U8 b) : byteW (xorB a b) = byteW a ^^^ byteW b := by
  apply BitVec.eq_of_toNat_eq
  rw [byteW_toNat (xorB_U8 a b), BitVec.toNat_xor, byteW_toNat ha, byteW_toNat hb]
  unfold xorB
  rw [BitVec.toNat_xor, BitVec.toNat_ofInt, BitVec.toNat_ofInt]
  unfold U8 at *
  have e1 : (a % ((2 ^ 8 : Nat) : Int)).toNat = a.toNat := by omega
  have e2 : (b % ((2 ^ 8 : Nat) : Int)).toNat = b.toNat := by omega
  rw [e1, e2]
  omega

/-- What bytes make of a register. -/
def feed (c : B32) (x : Int) : B32 := csteps 8 (c ^^^ byteW x)
def feeds (c : B32) (xs : List Int) : B32 := xs.foldl feed c
theorem feeds_nil (c : B32) : feeds c [] = c := rfl
theorem feeds_cons (c : B32) (x : Int) (xs : List Int) : feeds c (x :: xs) = feeds (feed c x) xs := rfl
theorem feeds_append (c : B32) (xs ys : List Int) : feeds c (xs ++ ys) = feeds (feeds c xs) ys := by unfold feeds; rw [List.foldl_append]
theorem feeds_snoc (c : B32) (xs : List Int) (y : Int) : feeds c (xs ++ [y]) = feed (feeds c xs) y := by rw [feeds_append]; rfl
/-- A register that differs: so much differs behind all. -/
theorem feeds_xor (c d : B32) (xs : List Int) : feeds (c ^^^ d) xs = feeds c xs ^^^ csteps (8 * xs.length) d := by
  induction xs generalizing c d with
  | nil => rfl
  | cons x xs ih =>
    rw [feeds_cons, feeds_cons]
    have e : feed (c ^^^ d) x = feed c x ^^^ csteps 8 d := by
      unfold feed
      rw [← csteps_xor, BitVec.xor_assoc, BitVec.xor_comm d, ← BitVec.xor_assoc]
    rw [e, ih, ← csteps_add]
    congr 2
    simp
    omega
theorem feed_xor (c : B32) {x m : Int} (hx : U8 x) (hm : U8 m) : feed c (xorB x m) = feed c x ^^^ csteps 8 (byteW m) := by
  unfold feed
  rw [byteW_xor hx hm, ← BitVec.xor_assoc, csteps_xor]
/-- One byte turned by m. -/
theorem feeds_turn (c : B32) (xs ys : List Int) {x m : Int} (hx : U8 x) (hm : U8 m) : feeds c (xs ++ xorB x m :: ys) = feeds c (xs ++ x :: ys) ^^^ csteps (8 * (ys.length + 1)) (byteW m) := by
  rw [feeds_append, feeds_append, feeds_cons, feeds_cons, feed_xor _ hx hm, feeds_xor, ← csteps_add]
  congr 2
  omega
theorem feeds_set (c : B32) (xs : List Int) (j : Nat) (m : Int) (hj : j < xs.length) (hx : U8 (xs.getD j 0)) (hm : U8 m) : feeds c (xs.set j (xorB (xs.getD j 0) m)) = feeds c xs ^^^ csteps (8 * (xs.length - j)) (byteW m) := by
  have e : xs = xs.take j ++ xs.getD j 0 :: xs.drop (j + 1) := by
    rw [List.getD_eq_getElem?_getD, List.getElem?_eq_getElem hj, Option.getD_some, List.getElem_cons_drop, List.take_append_drop]
  have f : xs.set j (xorB (xs.getD j 0) m) = xs.take j ++ xorB (xs.getD j 0) m :: xs.drop (j + 1) := by
    rw [List.set_eq_take_append_cons_drop, if_pos hj]
  rw [f, feeds_turn c _ _ hx hm, ← e]
  congr 2
  rw [List.length_drop]
  omega

/-- A word's four bytes, the lowest first, behind a register. -/
def byteOf (c : B32) (i : Nat) : Int := (((c >>> (8 * i)).toNat % 256 : Nat) : Int)
theorem byteOf_U8 (c : B32) (i : Nat) : U8 (byteOf c i) := by unfold byteOf U8; omega
def le4 (c : B32) : List Int := [byteOf c 0, byteOf c 1, byteOf c 2, byteOf c 3]
theorem byteW_byteOf (c : B32) (i : Nat) : byteW (byteOf c i) = (c >>> (8 * i)) &&& 255#32 := by
  apply BitVec.eq_of_toNat_eq
  rw [byteW_toNat (byteOf_U8 c i), BitVec.toNat_and]
  unfold byteOf
  have : (255#32).toNat = 2 ^ 8 - 1 := by decide
  rw [this, Nat.and_two_pow_sub_one_eq_mod]
  omega
/-- Eight steps of a register: its lowest byte's, and the rest as it comes down. -/
theorem csteps_byte (c : B32) : csteps 8 c = csteps 8 (byteW (byteOf c 0)) ^^^ (c >>> 8) := by
  have e : c = byteW (byteOf c 0) ^^^ ((c >>> 8) <<< 8) := by
    rw [byteW_byteOf]
    apply BitVec.eq_of_getLsbD_eq
    intro i hi
    have h255 : (255#32).getLsbD i = decide (i < 8) := by
      rw [← BitVec.testBit_toNat]
      have : (255#32).toNat = 2 ^ 8 - 1 := by decide
      rw [this, Nat.testBit_two_pow_sub_one]
    rw [BitVec.getLsbD_xor, BitVec.getLsbD_and, h255, BitVec.getLsbD_shiftLeft, BitVec.getLsbD_ushiftRight, BitVec.getLsbD_ushiftRight]
    by_cases h8 : i < 8
    · simp [h8]
    · have e8 : 8 + (i - 8) = i := by omega
      simp [h8, e8, hi]
  have s : csteps 8 ((c >>> 8) <<< 8) = c >>> 8 := by
    have := csteps_shl 8 0 (c >>> 8) (fun k hk => by rw [BitVec.getLsbD_ushiftRight]; exact BitVec.getLsbD_of_ge _ _ (by omega)) (by decide)
    simpa [csteps] using this
  conv => lhs; rw [e]
  rw [csteps_xor, s]
theorem feed_word (c d : B32) : csteps 8 (c ^^^ d) = feed c (byteOf d 0) ^^^ (d >>> 8) := by
  rw [csteps_xor, csteps_byte d, ← BitVec.xor_assoc, ← csteps_xor]
  rfl
theorem byteOf_shift (d : B32) (i : Nat) : byteOf (d >>> 8) i = byteOf d (i + 1) := by
  unfold byteOf
  have : 8 + 8 * i = 8 * (i + 1) := by omega
  rw [← BitVec.shiftRight_add, this]
theorem feeds_le4 (c d : B32) : feeds c (le4 d) = csteps 32 (c ^^^ d) := by
  have h0 : d >>> 8 >>> 8 >>> 8 >>> 8 = 0#32 := by
    rw [← BitVec.shiftRight_add, ← BitVec.shiftRight_add, ← BitVec.shiftRight_add]
    exact BitVec.ushiftRight_eq_zero (by decide)
  have e : csteps 32 (c ^^^ d) = csteps 8 (csteps 8 (csteps 8 (csteps 8 (c ^^^ d)))) := by
    rw [← csteps_add, ← csteps_add, ← csteps_add]
  rw [e, feed_word, feed_word, feed_word, feed_word, h0, BitVec.xor_zero, byteOf_shift, byteOf_shift, byteOf_shift, byteOf_shift, byteOf_shift, byteOf_shift]
  rfl

/-- The register at the beginning; what closed bytes leave in it. -/
def ones : B32 := 0xffffffff#32
def rest : B32 := csteps 32 ones
/-- The sum of bytes. -/
def crc (xs : List Int) : B32 := ones ^^^ feeds ones xs
theorem feeds_of_crc (xs : List Int) : feeds ones xs = ones ^^^ crc xs := by unfold crc; rw [← BitVec.xor_assoc, BitVec.xor_self, BitVec.zero_xor]
theorem crc_inj {xs ys : List Int} : crc xs = crc ys ↔ feeds ones xs = feeds ones ys := by
  refine ⟨fun h => by rw [feeds_of_crc, feeds_of_crc, h], fun h => by unfold crc; rw [h]⟩
/-- Closed bytes. -/
theorem feeds_closed (xs : List Int) (d : B32) : feeds ones (xs ++ le4 d) = rest ↔ d = crc xs := by
  rw [feeds_append, feeds_le4]
  refine ⟨fun h => ?_, fun h => ?_⟩
  · have := csteps_inj h
    have e : d = feeds ones xs ^^^ (feeds ones xs ^^^ d) := by rw [← BitVec.xor_assoc, BitVec.xor_self, BitVec.zero_xor]
    rw [this, BitVec.xor_comm] at e
    exact e
  · rw [h]
    unfold crc rest
    rw [BitVec.xor_comm ones, ← BitVec.xor_assoc, BitVec.xor_self, BitVec.zero_xor]
/-- Four bytes are some word's. -/
def wordOf (a b c d : Int) : B32 := BitVec.ofNat 32 (a.toNat + b.toNat * 256 + c.toNat * 65536 + d.toNat * 16777216)
theorem byteOf_nat (c : B32) (i : Nat) : byteOf c i = ((c.toNat / 2 ^ (8 * i) % 256 : Nat) : Int) := by
  unfold byteOf; rw [BitVec.toNat_ushiftRight, Nat.shiftRight_eq_div_pow]
theorem le4_wordOf {a b c d : Int} (ha : U8 a) (hb : U8 b) (hc : U8 c) (hd : U8 d) : le4 (wordOf a b c d) = [a, b, c, d] := by
  have e : (wordOf a b c d).toNat = a.toNat + b.toNat * 256 + c.toNat * 65536 + d.toNat * 16777216 := by
    unfold wordOf U8 at *; rw [BitVec.toNat_ofNat]; omega
  unfold le4
  rw [byteOf_nat, byteOf_nat, byteOf_nat, byteOf_nat, e]
  unfold U8 at *
  congr 1
  · simp only [Nat.mul_zero, Nat.pow_zero, Nat.div_one]; omega
  · congr 1
    · simp only [Nat.mul_one, Nat.reducePow]; omega
    · congr 1
      · simp only [Nat.reduceMul, Nat.reducePow]; omega
      · congr 1
        simp only [Nat.reduceMul, Nat.reducePow]; omega
theorem le4_inj {c d : B32} (h : le4 c = le4 d) : c = d := by
  have := feeds_le4 0#32 c
  rw [h, feeds_le4] at this
  have := csteps_inj this
  rw [BitVec.zero_xor, BitVec.zero_xor] at this
  exact this.symm
/-- Closed, said by the last four bytes. -/
theorem closed_iff (xs : List Int) {a b c d : Int} (ha : U8 a) (hb : U8 b) (hc : U8 c) (hd : U8 d) : feeds ones (xs ++ [a, b, c, d]) = rest ↔ [a, b, c, d] = le4 (crc xs) := by
  rw [← le4_wordOf ha hb hc hd, feeds_closed]
  exact ⟨fun h => by rw [h], fun h => le4_inj h⟩

/-- A burst: bit by bit. What has been turned, of x's first k bits. -/
def some1 (x : B32) : Nat → B32
  | 0 => 0#32
  | k + 1 => if x.getLsbD k then some1 x k ^^^ (1#32 <<< k) else some1 x k
theorem one_shl (k i : Nat) (hk : k < 32) : (1#32 <<< k).getLsbD i = decide (i = k) := by
  rw [BitVec.getLsbD_shiftLeft]
  by_cases h : i = k
  · subst h; simp [hk]
  · by_cases h1 : i < k
    · simp [h, h1]
    · have : (1#32).getLsbD (i - k) = false := by
        rw [← BitVec.testBit_toNat]
        apply Nat.testBit_lt_two_pow
        have : 2 ^ 1 ≤ 2 ^ (i - k) := Nat.pow_le_pow_right (by decide) (by omega)
        have e : (1#32).toNat = 1 := by decide
        omega
      simp [h, this]
theorem some1_bit (x : B32) (k : Nat) (hk : k ≤ 32) (i : Nat) : (some1 x k).getLsbD i = (decide (i < k) && x.getLsbD i) := by
  induction k with
  | zero => simp [some1]
  | succ k ih =>
    have ih := ih (by omega)
    simp only [some1]
    by_cases hx : x.getLsbD k = true
    · rw [if_pos hx, BitVec.getLsbD_xor, ih, one_shl k i (by omega)]
      by_cases h : i = k
      · subst h; simp [hx]
      · have : decide (i < k + 1) = decide (i < k) := by simp; omega
        simp [h, this]
    · rw [if_neg hx, ih]
      by_cases h : i = k
      · subst h; simp at hx; simp [hx]
      · have : decide (i < k + 1) = decide (i < k) := by simp; omega
        simp [this]
theorem some1_all (x : B32) : some1 x 32 = x := by
  apply BitVec.eq_of_getLsbD_eq
  intro i hi
  rw [some1_bit x 32 (by decide)]
  simp [hi]
/-- The bit at place p of all bits, turned: what it leaves. -/
theorem bit_steps (n p k : Nat) (hk : k < 32) (hp : p + k < 8 * n) (h32 : p + 32 ≤ 8 * n) : csteps (8 * (n - (p + k) / 8)) (1#32 <<< ((p + k) % 8)) = csteps (8 * n - p) (1#32 <<< k) := by
  have one : ∀ j, 1 ≤ j → (1#32).getLsbD j = false := fun j hj => by
    rw [← BitVec.testBit_toNat]
    apply Nat.testBit_lt_two_pow
    have : 2 ^ 1 ≤ 2 ^ j := Nat.pow_le_pow_right (by decide) hj
    have e : (1#32).toNat = 1 := by decide
    omega
  have e1 : 8 * (n - (p + k) / 8) = (p + k) % 8 + (8 * n - (p + k)) := by omega
  have e2 : 8 * n - p = k + (8 * n - (p + k)) := by omega
  rw [e1, e2, csteps_shl _ _ _ (fun j hj => one j (by omega)) (by omega), csteps_shl _ _ _ (fun j hj => one j (by omega)) (by omega)]
/-- A byte of a word, at its place: what it leaves. -/
theorem byte_steps (n j i : Nat) (m : Int) (hm : U8 m) (hi : i < 4) (hj : j + 4 ≤ n) : csteps (8 * (n - (j + i))) (byteW m) = csteps (8 * (n - j)) (byteW m <<< (8 * i)) := by
  have e : 8 * (n - j) = 8 * i + 8 * (n - (j + i)) := by omega
  rw [e, csteps_shl _ _ _ (fun k hk => byteW_high hm k (by omega)) (by omega)]
/-- A word's bytes, as far as the first i of them. -/
def some4 (x : B32) : Nat → B32
  | 0 => 0#32
  | i + 1 => some4 x i ^^^ (byteW (byteOf x i) <<< (8 * i))
theorem some4_bit (x : B32) (i : Nat) (hi : i ≤ 4) (k : Nat) (hk : k < 32) : (some4 x i).getLsbD k = (decide (k < 8 * i) && x.getLsbD k) := by
  induction i with
  | zero => simp [some4]
  | succ i ih =>
    have ih := ih (by omega)
    have h255 : ∀ q, (255#32).getLsbD q = decide (q < 8) := fun q => by
      rw [← BitVec.testBit_toNat]
      have : (255#32).toNat = 2 ^ 8 - 1 := by decide
      rw [this, Nat.testBit_two_pow_sub_one]
    simp only [some4]
    rw [BitVec.getLsbD_xor, ih, BitVec.getLsbD_shiftLeft, byteW_byteOf, BitVec.getLsbD_and, BitVec.getLsbD_ushiftRight, h255]
    by_cases h1 : k < 8 * i
    · have : k < 8 * (i + 1) := by omega
      simp [h1, this]
    · by_cases h2 : k < 8 * (i + 1)
      · have e : 8 * i + (k - 8 * i) = k := by omega
        have : k - 8 * i < 8 := by omega
        simp [h1, h2, e, this, hk]
      · have : ¬ k - 8 * i < 8 := by omega
        simp [h1, h2, this]
theorem some4_all (x : B32) : some4 x 4 = x := by
  apply BitVec.eq_of_getLsbD_eq
  intro i hi
  rw [some4_bit x 4 (by decide) i hi]
  simp [hi]
/-- Two bytes beside each other, exchanged. -/
theorem swap_steps (n j : Nat) (m : Int) (hm : U8 m) (hj : j + 2 ≤ n) : csteps (8 * (n - j)) (byteW m) ^^^ csteps (8 * (n - (j + 1))) (byteW m) = 0#32 ↔ m = 0 := by
  have e : csteps (8 * (n - (j + 1))) (byteW m) = csteps (8 * (n - j)) (byteW m <<< 8) := by
    have f : 8 * (n - j) = 8 + 8 * (n - (j + 1)) := by omega
    rw [f, csteps_shl _ _ _ (fun k hk => byteW_high hm k (by omega)) (by omega)]
  rw [e, ← csteps_xor]
  refine ⟨fun h => ?_, fun h => by subst h; rw [show byteW 0 = 0#32 from by decide]; simp [csteps_zero]⟩
  have h := csteps_eq_zero h
  have z : byteW m = byteW 0 := by
    apply BitVec.eq_of_getLsbD_eq
    intro i hi
    by_cases h8 : i < 8
    · have := congrArg (fun b => BitVec.getLsbD b i) h
      simp only [BitVec.getLsbD_xor, BitVec.getLsbD_shiftLeft] at this
      simp [h8] at this
      rw [this, show byteW 0 = 0#32 from by decide]
      simp
    · rw [byteW_high hm i (by omega), byteW_high (show U8 0 from by unfold U8; decide) i (by omega)]
  exact byteW_inj hm (by unfold U8; decide) z
/-- Of three texts as long. -/
theorem feeds_three (n : Nat) (a b c : Nat → Int) (ha : ∀ k, k < n → U8 (a k) ∧ U8 (b k) ∧ U8 (c k)) (p q r : B32) :
    feeds (p ^^^ q ^^^ r) ((List.range n).map fun k => xorB (xorB (a k) (b k)) (c k)) = feeds p ((List.range n).map a) ^^^ feeds q ((List.range n).map b) ^^^ feeds r ((List.range n).map c) := by
  induction n with
  | zero => rfl
  | succ n ih =>
    have ih := ih (fun k hk => ha k (by omega))
    obtain ⟨h1, h2, h3⟩ := ha n (by omega)
    rw [List.range_succ, List.map_append, List.map_append, List.map_append, List.map_append]
    simp only [List.map_cons, List.map_nil]
    rw [feeds_snoc, feeds_snoc, feeds_snoc, feeds_snoc, ih]
    unfold feed
    rw [byteW_xor (xorB_U8 _ _) h3, byteW_xor h1 h2, ← csteps_xor, ← csteps_xor]
    congr 1
    ac_rfl
theorem crc_three (n : Nat) (a b c : Nat → Int) (ha : ∀ k, k < n → U8 (a k) ∧ U8 (b k) ∧ U8 (c k)) :
    crc ((List.range n).map fun k => xorB (xorB (a k) (b k)) (c k)) = crc ((List.range n).map a) ^^^ crc ((List.range n).map b) ^^^ crc ((List.range n).map c) := by
  have h := feeds_three n a b c ha ones ones ones
  have o : ones ^^^ ones ^^^ ones = ones := by decide
  rw [o] at h
  unfold crc
  rw [h]
  conv => lhs; rw [← o]
  ac_rfl
/-- What is turned by m leaves the sum as it is just if m is nought. -/
theorem crc_turn (xs ys : List Int) (t : Nat) (d : B32) (h : feeds ones ys = feeds ones xs ^^^ csteps t d) : crc ys = crc xs ↔ d = 0#32 := by
  rw [crc_inj, h]
  refine ⟨fun e => ?_, fun e => by rw [e, csteps_zero, BitVec.xor_zero]⟩
  have z : csteps t d = 0#32 := by
    have := congrArg (fun q => feeds ones xs ^^^ q) e
    simp only [← BitVec.xor_assoc, BitVec.xor_self, BitVec.zero_xor] at this
    exact this
  exact csteps_eq_zero z
theorem xorB_self_left {a b : Int} (hb : U8 b) : xorB a (xorB a b) = b := by
  unfold xorB
  have e : BitVec.ofInt 8 (((BitVec.ofInt 8 a ^^^ BitVec.ofInt 8 b).toNat : Nat) : Int) = BitVec.ofInt 8 a ^^^ BitVec.ofInt 8 b := by
    apply BitVec.eq_of_toNat_eq
    rw [BitVec.toNat_ofInt]
    have := (BitVec.ofInt 8 a ^^^ BitVec.ofInt 8 b).isLt
    omega
  rw [e, ← BitVec.xor_assoc, BitVec.xor_self, BitVec.zero_xor, BitVec.toNat_ofInt]
  unfold U8 at hb
  omega
theorem xorB_comm (a b : Int) : xorB a b = xorB b a := by unfold xorB; rw [BitVec.xor_comm]
theorem xorB_zero {a : Int} (ha : U8 a) : xorB a 0 = a := by
  unfold xorB
  have : BitVec.ofInt 8 0 = 0#8 := by decide
  rw [this, BitVec.xor_zero, BitVec.toNat_ofInt]
  unfold U8 at ha
  omega
theorem xorB_eq_zero {a b : Int} (ha : U8 a) (hb : U8 b) : xorB a b = 0 ↔ a = b := by
  refine ⟨fun h => ?_, fun h => ?_⟩
  · have := xorB_self_left (a := a) hb
    rw [h, xorB_zero ha] at this
    exact this
  · subst h
    unfold xorB
    rw [BitVec.xor_self]
    rfl
theorem byteW_zero {m : Int} (hm : U8 m) : byteW m = 0#32 ↔ m = 0 := by
  have z : byteW 0 = 0#32 := by decide
  refine ⟨fun h => byteW_inj hm (by unfold U8; decide) (by rw [h, z]), fun h => by rw [h, z]⟩
/-- One byte turned. -/
theorem crc_set (ys : List Int) (k : Nat) (x : Int) (hk : k < ys.length) (hu : U8 (ys.getD k 0)) (hx : U8 x) : crc (ys.set k (xorB (ys.getD k 0) x)) = crc ys ↔ x = 0 := by
  rw [crc_turn ys _ _ _ (feeds_set ones ys k x hk hu hx), byteW_zero hx]
/-- Two bytes beside each other exchanged. -/
theorem crc_swap (ys : List Int) (k : Nat) (hk : k + 1 < ys.length) (ha : U8 (ys.getD k 0)) (hb : U8 (ys.getD (k + 1) 0)) : crc ((ys.set k (ys.getD (k + 1) 0)).set (k + 1) (ys.getD k 0)) = crc ys ↔ ys.getD k 0 = ys.getD (k + 1) 0 := by
  obtain ⟨a, ea⟩ : ∃ a, a = ys.getD k 0 := ⟨_, rfl⟩
  obtain ⟨b, eb⟩ : ∃ b, b = ys.getD (k + 1) 0 := ⟨_, rfl⟩
  rw [← ea] at ha
  rw [← eb] at hb
  rw [← ea, ← eb]
  have hm := xorB_U8 a b
  have e1 : b = xorB a (xorB a b) := (xorB_self_left hb).symm
  have e2 : a = xorB b (xorB a b) := by rw [xorB_comm a b]; exact (xorB_self_left ha).symm
  have g1 : (ys.set k b).getD (k + 1) 0 = b := by
    rw [List.getD_eq_getElem?_getD, List.getElem?_set, if_neg (by omega), ← List.getD_eq_getElem?_getD]; exact eb.symm
  have l1 : (ys.set k b).length = ys.length := List.length_set
  have f1 : feeds ones (ys.set k b) = feeds ones ys ^^^ csteps (8 * (ys.length - k)) (byteW (xorB a b)) := by
    have := feeds_set ones ys k (xorB a b) (by omega) (by rw [← ea]; exact ha) hm
    rw [← ea, ← e1] at this
    exact this
  have f2 : feeds ones ((ys.set k b).set (k + 1) a) = feeds ones (ys.set k b) ^^^ csteps (8 * (ys.length - (k + 1))) (byteW (xorB a b)) := by
    have := feeds_set ones (ys.set k b) (k + 1) (xorB a b) (by omega) (by rw [g1]; exact hb) hm
    rw [g1, ← e2, l1] at this
    exact this
  rw [crc_inj, f2, f1, ← xorB_eq_zero ha hb, ← swap_steps ys.length k (xorB a b) hm (by omega), BitVec.xor_assoc]
  refine ⟨fun e => ?_, fun e => by rw [e, BitVec.xor_zero]⟩
  have := congrArg (fun q => feeds ones ys ^^^ q) e
  simp only [← BitVec.xor_assoc, BitVec.xor_self, BitVec.zero_xor] at this
  exact this
end Go.Proofs.Ytjjkddahfmkhoaa

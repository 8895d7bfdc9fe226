/-
  Plain arithmetic under math/bits.Div64: one digit of the school division by a normalised divisor of two digits of 32 bits each. No program in this text.
-/
namespace Go.Proofs.Ytddlannblopbeaa
set_option linter.unusedVariables false
set_option linter.unusedSimpArgs false

/-- The true digit. -/
def DQ (u d y1 y0 : Int) : Int := (u * 4294967296 + d) / (y1 * 4294967296 + y0)
/-- The true remainder. -/
def DR (u d y1 y0 : Int) : Int := (u * 4294967296 + d) % (y1 * 4294967296 + y0)
/-- What holds at the head of the loop that corrects a guessed digit. -/
def DInv (u d y1 y0 q r : Int) : Prop := q * y1 + r = u ∧ DQ u d y1 y0 ≤ q ∧ q ≤ 4294967297 ∧ 0 ≤ r ∧ r < 4294967296
/-- The numbers that a digit is made of. -/
structure DOk (u d y1 y0 : Int) : Prop where
  y1lo : 2147483648 ≤ y1
  y1hi : y1 < 4294967296
  y0lo : 0 ≤ y0
  y0hi : y0 < 4294967296
  ulo : 0 ≤ u
  uhi : u < y1 * 4294967296 + y0
  dlo : 0 ≤ d
  dhi : d < 4294967296

variable {u d y1 y0 q r : Int}

theorem DOk.ypos (h : DOk u d y1 y0) : 0 < y1 * 4294967296 + y0 := by have := h.y1lo; have := h.y0lo; omega
theorem DOk.yhi (h : DOk u d y1 y0) : y1 * 4294967296 + y0 < 18446744073709551616 := by have := h.y1hi; have := h.y0hi; omega
theorem DOk.qlt (h : DOk u d y1 y0) : DQ u d y1 y0 < 4294967296 := by
  have := h.uhi; have := h.dhi
  exact Int.ediv_lt_of_lt_mul h.ypos (by omega)
theorem DOk.qnn (h : DOk u d y1 y0) : 0 ≤ DQ u d y1 y0 := by
  have := h.ulo; have := h.dlo
  exact Int.ediv_nonneg (by omega) (Int.le_of_lt h.ypos)
theorem DOk.rnn (h : DOk u d y1 y0) : 0 ≤ DR u d y1 y0 := Int.emod_nonneg _ (by have := h.ypos; omega)
theorem DOk.rlt (h : DOk u d y1 y0) : DR u d y1 y0 < y1 * 4294967296 + y0 := Int.emod_lt_of_pos _ h.ypos
theorem DOk.split (_h : DOk u d y1 y0) : DQ u d y1 y0 * (y1 * 4294967296 + y0) + DR u d y1 y0 = u * 4294967296 + d := by
  unfold DQ DR
  rw [Int.mul_comm]
  exact Int.mul_ediv_add_emod _ _
theorem mul_out (q y1 y0 : Int) : q * (y1 * 4294967296 + y0) = q * y1 * 4294967296 + q * y0 := by
  rw [Int.mul_add, ← Int.mul_assoc]
/-- The true digit is no greater than the guess by the first digit alone. -/
theorem DOk.guess (h : DOk u d y1 y0) : DQ u d y1 y0 * y1 ≤ u := by
  have a := h.split; have b := h.rnn; have c := h.dhi; have e := h.qnn
  rw [mul_out] at a
  have f : 0 ≤ DQ u d y1 y0 * y0 := Int.mul_nonneg e h.y0lo
  omega
theorem DOk.start (h : DOk u d y1 y0) (hq : q = u / y1) (hr : r = u - q * y1) : DInv u d y1 y0 q r := by
  have p : 0 < y1 := by have := h.y1lo; omega
  have hm : y1 * (u / y1) + u % y1 = u := Int.mul_ediv_add_emod u y1
  have hlo : 0 ≤ u % y1 := Int.emod_nonneg _ (by omega)
  have hhi : u % y1 < y1 := Int.emod_lt_of_pos _ p
  rw [Int.mul_comm] at hm
  subst hq
  have g := h.guess
  have e1 : DQ u d y1 y0 ≤ u / y1 := (Int.le_ediv_iff_mul_le p).2 g
  have e2 : u / y1 < 4294967298 := by
    apply Int.ediv_lt_of_lt_mul p
    have := h.uhi; have := h.y0hi; have := h.y1lo
    omega
  have := h.y1hi
  exact ⟨by omega, e1, by omega, by omega, by omega⟩
/-- The test that says 'too great' is right. -/
theorem DInv.step (h : DInv u d y1 y0 q r) (k : DOk u d y1 y0) (ht : 4294967296 ≤ q ∨ 4294967296 * r + d < q * y0) : DQ u d y1 y0 ≤ q - 1 := by
  obtain ⟨a, b, c, e, f⟩ := h
  rcases ht with ht | ht
  · have := k.qlt; omega
  · have g : u * 4294967296 + d < q * (y1 * 4294967296 + y0) := by
      rw [mul_out]; omega
    have := (Int.ediv_lt_iff_lt_mul k.ypos).2 g
    unfold DQ; omega
theorem DInv.next (h : DInv u d y1 y0 q r) (k : DOk u d y1 y0) (ht : 4294967296 ≤ q ∨ 4294967296 * r + d < q * y0) (hr : r + y1 < 4294967296) : DInv u d y1 y0 (q - 1) (r + y1) := by
  have s := h.step k ht
  obtain ⟨a, b, c, e, f⟩ := h
  have := k.y1lo
  refine ⟨?_, s, by omega, by omega, hr⟩
  rw [Int.sub_mul]; omega
theorem DInv.stop (h : DInv u d y1 y0 q r) (k : DOk u d y1 y0) (ht : ¬ 4294967296 * r + d < q * y0) : q = DQ u d y1 y0 := by
  obtain ⟨a, b, c, e, f⟩ := h
  have g : q * (y1 * 4294967296 + y0) ≤ u * 4294967296 + d := by rw [mul_out]; omega
  have := (Int.le_ediv_iff_mul_le k.ypos).2 g
  unfold DQ at b ⊢; omega
theorem DInv.brk (h : DInv u d y1 y0 q r) (k : DOk u d y1 y0) (ht : 4294967296 ≤ q ∨ 4294967296 * r + d < q * y0) (hr : 4294967296 ≤ r + y1) : q - 1 = DQ u d y1 y0 := by
  have s := h.step k ht
  have qn := k.qnn
  obtain ⟨a, b, c, e, f⟩ := h
  have hm : (q - 1) * y0 ≤ 4294967296 * 4294967296 := Int.mul_le_mul (by omega) (by have := k.y0hi; omega) k.y0lo (by omega)
  have g : (q - 1) * (y1 * 4294967296 + y0) ≤ u * 4294967296 + d := by
    rw [mul_out]
    have e2 : (q - 1) * y1 = u - r - y1 := by rw [Int.sub_mul]; omega
    rw [e2]
    have := k.dlo
    omega
  have := (Int.le_ediv_iff_mul_le k.ypos).2 g
  unfold DQ at s ⊢; omega
/-- The remainder as the program reckons it, round at 2^64. -/
theorem DOk.rem (h : DOk u d y1 y0) : ((u * 4294967296 % 18446744073709551616 + d) % 18446744073709551616 - DQ u d y1 y0 * (y1 * 4294967296 + y0) % 18446744073709551616) % 18446744073709551616 = DR u d y1 y0 := by
  have a := h.split; have b := h.rnn; have c := h.rlt; have e := h.yhi
  generalize DQ u d y1 y0 * (y1 * 4294967296 + y0) = P at *
  omega

/-- Two digits make the quotient. -/
theorem two_digits {U L y1 y0 d1 d0 : Int} (hL : L = d1 * 4294967296 + d0) (h1 : DOk U d1 y1 y0) (h2 : DOk (DR U d1 y1 y0) d0 y1 y0) :
    DQ U d1 y1 y0 * 4294967296 + DQ (DR U d1 y1 y0) d0 y1 y0 = (U * 18446744073709551616 + L) / (y1 * 4294967296 + y0) ∧ DR (DR U d1 y1 y0) d0 y1 y0 = (U * 18446744073709551616 + L) % (y1 * 4294967296 + y0) := by
  have a := h1.split; have b := h2.split; have c := h2.rnn; have e := h2.rlt
  generalize hY : y1 * 4294967296 + y0 = Y at *
  have key : (U * 18446744073709551616 + L) = DR (DR U d1 y1 y0) d0 y1 y0 + Y * (DQ U d1 y1 y0 * 4294967296 + DQ (DR U d1 y1 y0) d0 y1 y0) := by
    rw [Int.mul_add, Int.mul_comm Y (DQ (DR U d1 y1 y0) d0 y1 y0), ← Int.mul_assoc, Int.mul_comm Y]
    omega
  have hp : 0 < Y := by omega
  rw [key]
  constructor
  · rw [Int.add_mul_ediv_left _ _ (by omega), Int.ediv_eq_zero_of_lt c e]; omega
  · rw [Int.add_mul_emod_self_left, Int.emod_eq_of_lt c e]
end Go.Proofs.Ytddlannblopbeaa

/-
  math/bits.Div64, as this program bears it: for every high word below the divisor, every low word and every divisor it returns the quotient and the remainder of the two words by the divisor; the world is as it was, but for answers drawn from the tape.
-/
import Derived.Test.YtddlannblopbeaaWDiv
import Derived.Deep.QuietTactic
import Derived.BigQuiet
namespace Go.Proofs.Ytddlannblopbeaa
set_option linter.unusedVariables false
set_option linter.unusedSimpArgs false
open Go.RowKit

theorem bitLen_bd : ∀ n x : Nat, n ≤ 64 → x < 2 ^ n → x ≠ 0 → ∃ L, L < n ∧ Lib.bitLen x = L + 1 ∧ 2 ^ L ≤ x ∧ x < 2 ^ (L + 1)
  | 0, x, _, h, h0 => by simp at h; exact absurd h h0
  | n + 1, x, hn, h, h0 => by
    by_cases h1 : x = 1
    · subst h1; exact ⟨0, by omega, by decide, by decide, by decide⟩
    · have hx : x < 2 ^ 64 := Nat.lt_of_lt_of_le h (Nat.pow_le_pow_right (by decide) hn)
      rw [Nat.pow_succ] at h
      obtain ⟨L, a, b, c, d⟩ := bitLen_bd n (x / 2) (by omega) (by omega) (by omega)
      refine ⟨L + 1, by omega, by rw [Lib.bitLen_half x h0 hx, b]; omega, ?_, ?_⟩
      · rw [Nat.pow_succ]; omega
      · rw [Nat.pow_succ]; omega

/-- The numbers as Div64 lays them out: p is 2 to the s, c what is left of the word. -/
theorem norm_nat (hi lo y p c : Nat) (hpc : p * c = 18446744073709551616) (h1 : hi < y) (_hlo : lo < 18446744073709551616) (hY1 : 9223372036854775808 ≤ y * p) (hY2 : y * p < 18446744073709551616) :
    lo * p % 18446744073709551616 = lo % c * p ∧ (hi * p + lo / c) * 18446744073709551616 + lo % c * p = (hi * 18446744073709551616 + lo) * p ∧ hi * p + lo / c < y * p ∧ lo / c < p ∧ lo % c * p < 18446744073709551616 ∧ hi * p < 18446744073709551616 := by
  have hp : 0 < p := by rcases Nat.eq_zero_or_pos p with h | h; · rw [h] at hpc; omega
                        · exact h
  have hc : 0 < c := by rcases Nat.eq_zero_or_pos c with h | h; · rw [h] at hpc; omega
                        · exact h
  have e : c * (lo / c) + lo % c = lo := Nat.div_add_mod lo c
  have l1 : lo / c < p := (Nat.div_lt_iff_lt_mul hc).2 (by omega)
  have l2 : lo % c < c := Nat.mod_lt _ hc
  have l3 : lo % c * p < 18446744073709551616 := by rw [← hpc, Nat.mul_comm p c]; exact Nat.mul_lt_mul_of_pos_right l2 hp
  have e2 : lo * p = lo / c * 18446744073709551616 + lo % c * p := by
    have : (c * (lo / c) + lo % c) * p = lo / c * (p * c) + lo % c * p := by
      rw [Nat.add_mul, Nat.mul_comm c, Nat.mul_assoc, Nat.mul_comm c p]
    rw [e, hpc] at this; exact this
  have e3 : (hi + 1) * p ≤ y * p := Nat.mul_le_mul_right p h1
  rw [Nat.add_mul, Nat.one_mul] at e3
  refine ⟨?_, ?_, by omega, l1, l3, by omega⟩
  · rw [e2]; omega
  · rw [Nat.add_mul (hi * 18446744073709551616), e2, Nat.mul_right_comm hi]; omega

theorem or_sum (a s b : Nat) (hb : b < 2 ^ s) : a * 2 ^ s ||| b = a * 2 ^ s + b := by
  rw [Nat.mul_comm]; exact (Nat.two_pow_add_eq_or_of_lt hb a).symm

set_option maxHeartbeats 400000 in
theorem div64_big (hi lo y : Nat) (h0 : 0 < hi) (h1 : hi < y) (h2 : y < 18446744073709551616) (l1 : lo < 18446744073709551616) (w : World) :
    Calls Try.prog 36 #[.int .u64 hi, .int .u64 lo, .int .u64 y] w fun e w' => e = .returned (.tuple #[.int .u64 (((hi * 18446744073709551616 + lo) / y : Nat) : Int), .int .u64 (((hi * 18446744073709551616 + lo) % y : Nat) : Int)]) ∧ w = w' := by
  obtain ⟨L, hL, hb, hb1, hb2⟩ := bitLen_bd 64 y (Nat.le_refl _) (by omega) (by omega)
  obtain ⟨s, hs⟩ : ∃ s, s = 63 - L := ⟨_, rfl⟩
  have hpL : 2 ^ L * 2 ^ s = 9223372036854775808 := by rw [← Nat.pow_add, show L + s = 63 by omega]
  have hpc : 2 ^ s * 2 ^ (64 - s) = 18446744073709551616 := by rw [← Nat.pow_add, show s + (64 - s) = 64 by omega]
  have hp : 0 < 2 ^ s := Nat.two_pow_pos s
  have hY1 : 9223372036854775808 ≤ y * 2 ^ s := by rw [← hpL]; exact Nat.mul_le_mul_right _ hb1
  have hY2 : y * 2 ^ s < 18446744073709551616 := by
    have : y * 2 ^ s < 2 ^ (L + 1) * 2 ^ s := Nat.mul_lt_mul_of_pos_right hb2 hp
    rw [Nat.pow_succ, Nat.mul_right_comm, hpL] at this; omega
  obtain ⟨n1, n2, n3, n4, n5, n6⟩ := norm_nat hi lo y (2 ^ s) (2 ^ (64 - s)) hpc h1 l1 hY1 hY2
  have k1 : DOk ((hi * 2 ^ s + lo / 2 ^ (64 - s) : Nat) : Int) ((lo % 2 ^ (64 - s) * 2 ^ s / 4294967296 : Nat) : Int) ((y * 2 ^ s / 4294967296 : Nat) : Int) ((y * 2 ^ s % 4294967296 : Nat) : Int) := by
    constructor <;> omega
  have k2 : DOk (DR ((hi * 2 ^ s + lo / 2 ^ (64 - s) : Nat) : Int) ((lo % 2 ^ (64 - s) * 2 ^ s / 4294967296 : Nat) : Int) ((y * 2 ^ s / 4294967296 : Nat) : Int) ((y * 2 ^ s % 4294967296 : Nat) : Int)) ((lo % 2 ^ (64 - s) * 2 ^ s % 4294967296 : Nat) : Int) ((y * 2 ^ s / 4294967296 : Nat) : Int) ((y * 2 ^ s % 4294967296 : Nat) : Int) :=
    ⟨k1.y1lo, k1.y1hi, k1.y0lo, k1.y0hi, k1.rnn, k1.rlt, by omega, by omega⟩
  have cY : (y : Int) * 2 ^ s = ((y * 2 ^ s : Nat) : Int) := by simp
  have cH : (hi : Int) * 2 ^ s = ((hi * 2 ^ s : Nat) : Int) := by simp
  have cL : (lo : Int) * 2 ^ s = ((lo * 2 ^ s : Nat) : Int) := by simp
  have cD : (lo : Int) / 2 ^ (64 - s) = ((lo / 2 ^ (64 - s) : Nat) : Int) := by simp
  have core := div64_core hi lo y s ((y * 2 ^ s : Nat) : Int) ((y * 2 ^ s / 4294967296 : Nat) : Int) ((y * 2 ^ s % 4294967296 : Nat) : Int) ((hi * 2 ^ s + lo / 2 ^ (64 - s) : Nat) : Int) ((lo % 2 ^ (64 - s) * 2 ^ s : Nat) : Int) ((lo % 2 ^ (64 - s) * 2 ^ s / 4294967296 : Nat) : Int) ((lo % 2 ^ (64 - s) * 2 ^ s % 4294967296 : Nat) : Int)
    (by omega) (by omega) (by omega) (by omega) (by omega) (by omega) (by rw [Int.toNat_natCast, hb]; omega)
    (by rw [cY]; exact u64_id _ (by omega) (by omega)) (by omega) (by rw [and32 _ (by omega) (by omega)]; omega)
    (by rw [cH, cD, u64_id _ (by omega) (by omega), bits_or_u64_nat _ _ n6 (by omega), or_sum _ _ _ n4])
    (by rw [cL, IntKind.wrap_u64, ← n1]; omega) (by omega) (by rw [and32 _ (by omega) (by omega)]; omega)
    (Lib.hid (by omega)) k1 k2 w
  have td := two_digits (L := ((lo % 2 ^ (64 - s) * 2 ^ s : Nat) : Int)) (by omega) k1 k2
  have eY : ((y * 2 ^ s / 4294967296 : Nat) : Int) * 4294967296 + ((y * 2 ^ s % 4294967296 : Nat) : Int) = ((y * 2 ^ s : Nat) : Int) := by omega
  have eN : ((hi * 2 ^ s + lo / 2 ^ (64 - s) : Nat) : Int) * 18446744073709551616 + ((lo % 2 ^ (64 - s) * 2 ^ s : Nat) : Int) = (((hi * 18446744073709551616 + lo) * 2 ^ s : Nat) : Int) := by omega
  rw [eY, eN] at td
  have cP : (2 : Int) ^ s = ((2 ^ s : Nat) : Int) := by simp
  refine core.mono fun e w' ⟨he, hw⟩ => ⟨?_, hw⟩
  rw [he, td.1, td.2, cP, ← Int.natCast_ediv, ← Int.natCast_emod, ← Int.natCast_ediv, Nat.mul_div_mul_right _ _ hp, Nat.mul_mod_mul_right, Nat.mul_div_cancel _ hp]

set_option maxHeartbeats 400000 in
theorem div64_small (lo y : Int) (h1 : 0 < y) (h2 : y ≤ 18446744073709551615) (l0 : 0 ≤ lo) (l1 : lo ≤ 18446744073709551615) (w : World) :
    Calls Try.prog 36 #[.int .u64 0, .int .u64 lo, .int .u64 y] w fun e w' => e = .returned (.tuple #[.int .u64 (lo / y), .int .u64 (lo % y)]) ∧ ∃ n, w' = w.drewN n := by
  have b1 : decide (y ≤ 0) = false := by simp; omega
  have b2 : (y == 0) = false := by simp; omega
  go_enter Try.func36, Try.ntmps36
  go_wp2
  go_quiet (fail)
  go_wp2
  go_ret2
  exact ⟨rfl, _, rfl⟩

/-- Div64 for every high word below the divisor. -/
theorem div64 (hi lo y : Int) (h0 : 0 ≤ hi) (h1 : hi < y) (h2 : y ≤ 18446744073709551615) (l0 : 0 ≤ lo) (l1 : lo ≤ 18446744073709551615) (w : World) :
    Calls Try.prog 36 #[.int .u64 hi, .int .u64 lo, .int .u64 y] w fun e w' => e = .returned (.tuple #[.int .u64 ((hi * 18446744073709551616 + lo) / y), .int .u64 ((hi * 18446744073709551616 + lo) % y)]) ∧ ∃ n, w' = w.drewN n := by
  by_cases hz : hi = 0
  · subst hz
    refine (div64_small lo y h1 h2 l0 l1 w).mono fun e w' ⟨he, hw⟩ => ⟨?_, hw⟩
    rw [he]; simp
  · obtain ⟨hi, rfl⟩ := Int.eq_ofNat_of_zero_le h0
    obtain ⟨lo, rfl⟩ := Int.eq_ofNat_of_zero_le l0
    obtain ⟨y, rfl⟩ := Int.eq_ofNat_of_zero_le (show 0 ≤ y by omega)
    refine (div64_big hi lo y (by omega) (by omega) (by omega) (by omega) w).mono fun e w' ⟨he, hw⟩ => ⟨?_, 0, hw.symm⟩
    rw [he]; simp
end Go.Proofs.Ytddlannblopbeaa

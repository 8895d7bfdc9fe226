/-
  The lowest bits of an int.
-/
import Derived.Test.YtddlannblopbeaaProg
import Derived.WalkKit
namespace Go.Proofs.Ytddlannblopbeaa
set_option linter.unusedVariables false
set_option linter.unusedSimpArgs false
open Go.RowKit

theorem and1_i64 (n : Int) : bits .and .i64 n 1 = n % 2 := by
  have one : (BitVec.ofInt 64 1).toNat = 1 := by decide
  have e : (BitVec.ofInt 64 n &&& BitVec.ofInt 64 1).toNat = (n % ((2 ^ 64 : Nat) : Int)).toNat % 2 := by
    rw [BitVec.toNat_and, BitVec.toNat_ofInt, one, Nat.and_one_is_mod]
  have f : bits .and .i64 n 1 = IntKind.i64.wrap ((BitVec.ofInt 64 n &&& BitVec.ofInt 64 1).toNat : Nat) := rfl
  rw [f, e, IntKind.wrap_i64]
  omega
theorem andm_i64 (n : Int) (m : Nat) (k : Nat) (hk : m = 2 ^ k) (hm : 0 < m) (hm' : m ≤ 1048576) : bits .and .i64 n ((m : Int) - 1) = n % (m : Int) := by
  have one : (BitVec.ofInt 64 ((m : Int) - 1)).toNat = 2 ^ k - 1 := by
    rw [BitVec.toNat_ofInt, ← hk]; omega
  have e : (BitVec.ofInt 64 n &&& BitVec.ofInt 64 ((m : Int) - 1)).toNat = (n % ((2 ^ 64 : Nat) : Int)).toNat % m := by
    rw [BitVec.toNat_and, BitVec.toNat_ofInt, one, Nat.and_two_pow_sub_one_eq_mod, ← hk]
  have f : bits .and .i64 n ((m : Int) - 1) = IntKind.i64.wrap ((BitVec.ofInt 64 n &&& BitVec.ofInt 64 ((m : Int) - 1)).toNat : Nat) := rfl
  have hd : (m : Int) ∣ ((2 ^ 64 : Nat) : Int) := by
    have : k ≤ 20 := by
      rcases Nat.lt_or_ge 20 k with h | h
      · have := Nat.pow_lt_pow_right (a := 2) (by decide) h; omega
      · exact h
    have h2 : (2 : Nat) ^ 64 = 2 ^ k * 2 ^ (64 - k) := by rw [← Nat.pow_add]; congr 1; omega
    refine ⟨((2 ^ (64 - k) : Nat) : Int), ?_⟩
    rw [hk, h2, Int.natCast_mul]
  have g : (((n % ((2 ^ 64 : Nat) : Int)).toNat % m : Nat) : Int) = n % (m : Int) := by
    rw [Int.natCast_emod, Int.toNat_of_nonneg (Int.emod_nonneg _ (by decide)), Int.emod_emod_of_dvd _ hd]
  rw [f, e, g, IntKind.wrap_i64]
  have a1 := Int.emod_nonneg n (show (m : Int) ≠ 0 by omega)
  have a2 := Int.emod_lt_of_pos n (show (0 : Int) < (m : Int) by omega)
  omega
theorem and1023_i64 (n : Int) : bits .and .i64 n 1023 = n % 1024 := andm_i64 n 1024 10 (by decide) (by decide) (by decide)
end Go.Proofs.Ytddlannblopbeaa

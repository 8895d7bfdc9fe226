/-
  math/bits.Len64, as this program bears it: for every uint64 it returns how many bits the number has; the world is as it was.
-/
import Derived.Test.YtilmicekpclmbaaProg
import Derived.Lib.Strings
import Derived.Lib.Slices
import Derived.Lib.Small
import Derived.Lib.Walk
import Derived.Lib.BitFns
namespace Go.Proofs.Ytilmicekpclmbaa
set_option linter.unusedVariables false
set_option linter.unusedSimpArgs false

/-- The table's entry for what is left behind k bits, and k: the length of the whole. -/
theorem len_at (x y : Int) (k : Nat) (hk : k ≤ 56) (h0 : 0 ≤ x) (hlo : k = 0 ∨ 2 ^ k ≤ x.toNat) (hhi : x.toNat < 2 ^ k * 256) (hy : y.toNat = x.toNat / 2 ^ k) (hy0 : 0 ≤ y) : (k : Int) + Lib.len8 y = Lib.bitLen x.toNat ∧ 0 ≤ Lib.len8 y ∧ Lib.len8 y ≤ 8 := by
  have hy1 : y ≤ 255 := by
    have : x.toNat / 2 ^ k < 256 := (Nat.div_lt_iff_lt_mul (Nat.two_pow_pos k)).2 (by rw [Nat.mul_comm]; exact hhi)
    omega
  have hx : x.toNat < 2 ^ 64 := by
    have : 2 ^ k * 256 ≤ 2 ^ 56 * 256 := Nat.mul_le_mul_right _ (Nat.pow_le_pow_right (by decide) hk)
    omega
  have l8 := Lib.bitLen_le8' y hy0 hy1
  rw [Lib.len8_of y hy0 hy1]
  rcases hlo with rfl | hlo
  · rw [hy] at l8 ⊢; simp at l8 ⊢; omega
  · have := Lib.bitLen_shift k x.toNat hlo hx
    rw [hy] at l8 ⊢; omega

end Go.Proofs.Ytilmicekpclmbaa

/-
  math/bits.Len64, as this program bears it: for every uint64 it returns how many bits the number has; the world is as it was.
-/
import Derived.Test.YtoolmmjiemkpbaaProg
import Derived.Lib.Strings
import Derived.Lib.Slices
import Derived.Lib.Small
import Derived.Lib.Walk
import Derived.Lib.BitFns
namespace Go.Proofs.Ytoolmmjiemkpbaa
set_option linter.unusedVariables false
set_option linter.unusedSimpArgs false

/-- The table's entry for what is left behind k bits, and k: the length of the whole. -/
theorem len_at (x y : Int) (k : Nat) (hk : k ≤ 56) (h0 : 0 ≤ x) (hlo : k = 0 ∨ 2 ^ k ≤ x.toNat) (hhi : x.toNat < 2 ^ k * 256) (hy : y.toNat = x.toNat / 2 ^ k) (hy0 : 0 ≤ y) : (k : Int) + Lib.len8 y = Lib.bitLen x.toNat ∧ 0 ≤ Lib.len8 y ∧ Lib.len8 y ≤ 8 := by
  have hy1 : y ≤ 255 := by
    have : x.toNat / 2 ^ k < 256 := (Nat.div_lt_iff_lt_mul (Nat.two_pow_pos k)).2 (by rw [Nat.mul_comm]; exact hhi)
    omega
  have hx : x.toNat < 2 ^ 64 := by
    have : 2 ^ k * 256 ≤ 2 ^ 56 * 256 := Nat.mul_le_mul_right _ (Nat.pow_le_pow_right (by decide) hk)
    omega
  have l8 := Lib.bitLen_le8' y hy0 hy1
  rw [Lib.len8_of y hy0 hy1]
  rcases hlo with rfl | hlo
  · rw [hy] at l8 ⊢; simp at l8 ⊢; omega
  · have := Lib.bitLen_shift k x.toNat hlo hx
    rw [hy] at l8 ⊢; omega

set_option maxHeartbeats 4000000 in
set_option maxRecDepth 100000 in
theorem len64 (x : Int) (w : World) (h0 : 0 ≤ x) (h1 : x ≤ 18446744073709551615) :
    Calls Try.prog 89 #[.int .u64 x] w fun e w' => e = .returned (.int .i64 (Lib.bitLen x.toNat)) ∧ w = w' := by
  go_enter Try.func89, Try.ntmps89
  go_wp2
  all_goals go_ret
  all_goals refine ⟨?_, rfl⟩
  all_goals refine congrArg (fun n : Int => Ending.returned (Value.int IntKind.i64 n)) ?_
  · have := len_at x (x / 4294967296 / 65536 / 256 % 256) 56 (by decide) h0 (by omega) (by omega) (by omega) (by omega); omega
  · have := len_at x (x / 4294967296 / 65536 % 256) 48 (by decide) h0 (by omega) (by omega) (by omega) (by omega); omega
  · have := len_at x (x / 4294967296 / 256 % 256) 40 (by decide) h0 (by omega) (by omega) (by omega) (by omega); omega
  · have := len_at x (x / 4294967296 % 256) 32 (by decide) h0 (by omega) (by omega) (by omega) (by omega); omega
  · have := len_at x (x / 65536 / 256 % 256) 24 (by decide) h0 (by omega) (by omega) (by omega) (by omega); omega
  · have := len_at x (x / 65536 % 256) 16 (by decide) h0 (by omega) (by omega) (by omega) (by omega); omega
  · have := len_at x (x / 256 % 256) 8 (by decide) h0 (by omega) (by omega) (by omega) (by omega); omega
  · have := len_at x (x % 256) 0 (by decide) h0 (by omega) (by omega) (by omega) (by omega); omega
end Go.Proofs.Ytoolmmjiemkpbaa

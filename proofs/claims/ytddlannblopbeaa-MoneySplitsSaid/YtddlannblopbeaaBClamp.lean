/-
  The contract of the book's Clamp: a number in the span from lo to hi is itself, one beyond it the nearer end; the world is as it was.
-/
import Derived.Test.YtddlannblopbeaaProg
import Derived.WalkKit
import Derived.Lib.Hide
namespace Go.Proofs.Ytddlannblopbeaa
set_option linter.unusedVariables false
set_option linter.unusedSimpArgs false
open Go.RowKit

theorem clamp_any (n lo hi : Int) (hl : lo ≤ hi) (w : World) :
    Calls Try.prog 17 #[.int .i64 n, .int .i64 lo, .int .i64 hi] w fun e w' => e = .returned (.int .i64 (min (max n lo) hi)) ∧ w = w' := by
  obtain ⟨R, hR⟩ : ∃ R, min (max n lo) hi = R := ⟨_, rfl⟩
  rw [hR]
  by_cases h1 : n < lo
  · have b1 : decide (n < lo) = true := by simpa using h1
    obtain rfl : R = lo := by omega
    clear hR h1 hl
    go_enter Try.func17, Try.ntmps17
    go_wp2
    go_ret
    exact ⟨rfl, rfl⟩
  · have b1 : decide (n < lo) = false := by simpa using h1
    by_cases h2 : n > hi
    · have b2 : decide (n > hi) = true := by simpa using h2
      have b3 : decide (hi < n) = true := by simpa using h2
      obtain rfl : R = hi := by omega
      clear hR h1 h2 hl
      go_enter Try.func17, Try.ntmps17
      go_wp2
      go_ret
      exact ⟨rfl, rfl⟩
    · have b2 : decide (n > hi) = false := by simpa using h2
      have b3 : decide (hi < n) = false := by simpa using h2
      obtain rfl : R = n := by omega
      clear hR h1 h2 hl
      go_enter Try.func17, Try.ntmps17
      go_wp2
      go_ret
      exact ⟨rfl, rfl⟩
end Go.Proofs.Ytddlannblopbeaa

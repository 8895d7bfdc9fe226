/-
  Facts on the nearest whole number to a quotient.
-/
import Derived.Test.YtddlannblopbeaaWQuo
namespace Go.Proofs.Ytddlannblopbeaa
set_option linter.unusedVariables false
set_option linter.unusedSimpArgs false
open Go.RowKit

theorem near_whole (x y : Int) (hy : 0 < y) : near (x * y) y = x := by
  unfold near
  rw [Int.mul_emod_left, Int.mul_ediv_cancel _ (by omega), if_pos (by omega)]
theorem nearS_whole (x y : Int) (hy : 0 < y) : nearS (x * y) y = x := by
  unfold nearS
  split
  · rw [← Int.neg_mul, near_whole _ _ hy]; omega
  · exact near_whole x y hy
theorem nearS_one (x : Int) : nearS x 1 = x := by have := nearS_whole x 1 (by decide); rwa [Int.mul_one] at this
end Go.Proofs.Ytddlannblopbeaa

/-
  make([]byte, n): so many noughts of the call's own.
-/
import Derived.Test.YtimfmflnaehmgaaWApp
namespace Go.Proofs.Ytimfmflnaehmgaa
set_option linter.unusedVariables false
set_option linter.unusedSimpArgs false
open Go.RowKit

/-- So many noughts. -/
def zeros (n : Nat) : List Int := List.replicate n 0
theorem zeros_length (n : Nat) : (zeros n).length = n := by unfold zeros; rw [List.length_replicate]
theorem made_vals (n : Nat) : (madeCells (Value.int .u8 0).cells (n * 1)).toList = vals (zeros n) := by
  apply List.ext_getElem?
  intro i
  unfold madeCells vals zeros
  simp [Value.cells, List.getElem?_replicate]
  by_cases h : i < n
  · rw [List.getElem?_range h]
    simp [h, Nat.mod_one]
  · rw [List.getElem?_eq_none (by simp; omega)]
    simp [h]
end Go.Proofs.Ytimfmflnaehmgaa

/-
  The book's Within, of an int and a span that is no longer than the ints: what it returns is in the span; the world is as it was.
-/
import Derived.Test.YtkgjbmlgbfejlaaBWithin
import Derived.Test.YtkgjbmlgbfejlaaWNum
namespace Go.Proofs.Ytkgjbmlgbfejlaa
set_option linter.unusedVariables false
set_option linter.unusedSimpArgs false
open Go.RowKit

theorem within_in (n lo hi : Int) (hn : I64 n) (l0 : -9223372036854775808 ≤ lo) (hl : lo ≤ hi) (h1 : hi ≤ 9223372036854775807) (hm : hi - lo + 1 ≤ 9223372036854775807) (w : World) :
    Calls Try.prog 24 #[.int .i64 n, .int .i64 lo, .int .i64 hi] w fun e w' => ∃ y : Int, e = .returned (.int .i64 y) ∧ lo ≤ y ∧ y ≤ hi ∧ w = w' := by
  refine (bwithin_any n lo hi hn.1 hn.2 l0 hl h1 hm w).mono fun e w' ⟨he, hw⟩ => ⟨_, he, ?_, ?_, hw⟩
  · have := Int.emod_nonneg n (show hi - lo + 1 ≠ 0 by omega); omega
  · have := Int.emod_lt_of_pos n (show 0 < hi - lo + 1 by omega); omega
end Go.Proofs.Ytkgjbmlgbfejlaa

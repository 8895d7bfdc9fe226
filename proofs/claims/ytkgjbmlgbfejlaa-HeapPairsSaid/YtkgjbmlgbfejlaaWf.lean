/-
  An argument of type int that fits its kind is an int.
-/
import Derived.Test.YtkgjbmlgbfejlaaWNum
import Derived.WalkKit
namespace Go.Proofs.Ytkgjbmlgbfejlaa
set_option linter.unusedVariables false
set_option linter.unusedSimpArgs false
theorem i64_of {x : Int} (h : (Lit.int .i64 x).wf = true) : I64 x := by
  simp [Lit.wf, IntKind.min, IntKind.max, IntKind.signed, IntKind.bits] at h
  exact ⟨by omega, by omega⟩
end Go.Proofs.Ytkgjbmlgbfejlaa

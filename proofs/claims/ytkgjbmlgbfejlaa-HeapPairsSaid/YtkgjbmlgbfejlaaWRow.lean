/-
  A slice of ints that came in, as the walks want it.
-/
import Derived.Test.YtkgjbmlgbfejlaaWSums
import Derived.Test.YtkgjbmlgbfejlaaWf
import Derived.ProofKit
import Derived.OpenShut
namespace Go.Proofs.Ytkgjbmlgbfejlaa
set_option linter.unusedVariables false
open Go.RowKit
theorem ra_of {w : World} {A : Option Addr} {len cap : Nat} {zs : List Int}
    (h : (A = none ∧ len = 0 ∧ cap = 0 ∧ zs = []) ∨ ∃ x, A = some x ∧ len ≤ cap ∧ cap ≤ maxLen ∧ zs.length = cap ∧ (∀ i, i < zs.length → w.cell? (x.add i) = some (.int .i64 (zs.getD i 0))) ∧ ∀ n ∈ zs, (Lit.int .i64 n).wf = true) : RA w A len cap zs := by
  rcases h with ⟨rfl, rfl, rfl, rfl⟩ | ⟨x, rfl, h1, h2, h3, h4, h5⟩
  · exact ⟨Nat.le_refl _, Nat.zero_le _, fun k hk => absurd hk (by omega)⟩
  · refine ⟨h1, h2, fun k hk => ?_⟩
    obtain ⟨b, o, rfl, hc⟩ := ints_at h4 (by omega)
    have hkl : k < zs.length := by omega
    refine ⟨b, o, rfl, ?_, hc k hkl, ?_⟩
    · exact World.block_lt_of_cell? _ _ (hc k hkl)
    · refine i64_of (h5 _ ?_)
      rw [List.getD_eq_getElem?_getD, List.getElem?_eq_getElem hkl]
      exact List.getElem_mem hkl
end Go.Proofs.Ytkgjbmlgbfejlaa

/-
  A slice of ints that came in, as the walk of CatalogWith wants it.
-/
import Derived.Test.YtoolmmjiemkpbaaZ1
import Derived.Test.YtoolmmjiemkpbaaZ2
import Derived.ProofKit
import Derived.OpenShut
namespace Go.Proofs.Ytoolmmjiemkpbaa
set_option linter.unusedVariables false
set_option maxRecDepth 100000
open Go.RowKit
theorem ir_of {w : World} {A : Option Addr} {len cap : Nat} {zs : List Int}
    (h : (A = none ∧ len = 0 ∧ cap = 0 ∧ zs = []) ∨ ∃ x, A = some x ∧ len ≤ cap ∧ cap ≤ maxLen ∧ zs.length = cap ∧ (∀ i, i < zs.length → w.cell? (x.add i) = some (.int .i64 (zs.getD i 0))) ∧ ∀ n ∈ zs, (Lit.int .i64 n).wf = true) :
    IR w w.heap.size A (zs.take len) ∧ (zs.take len).length = len ∧ len ≤ cap ∧ cap ≤ maxLen := by
  rcases h with ⟨rfl, rfl, rfl, rfl⟩ | ⟨x, rfl, h1, h2, h3, h4, h5⟩
  · exact ⟨fun i hi => absurd hi (by simp), rfl, Nat.le_refl _, Nat.zero_le _⟩
  · have hl : (zs.take len).length = len := by rw [List.length_take]; omega
    refine ⟨fun k hk => ?_, hl, h1, h2⟩
    rw [hl] at hk
    obtain ⟨b, o, rfl, hc⟩ := ints_at h4 (by omega)
    have hkl : k < zs.length := by omega
    have e : iAt (zs.take len) k = zs.getD k 0 := by
      unfold iAt
      rw [List.getD_eq_getElem?_getD, List.getElem?_take, if_pos hk, List.getD_eq_getElem?_getD]
    rw [e]
    refine ⟨b, o, rfl, World.block_lt_of_cell? _ _ (hc k hkl), hc k hkl, ?_⟩
    refine i64_of (h5 _ ?_)
    rw [List.getD_eq_getElem?_getD, List.getElem?_eq_getElem hkl]
    exact List.getElem_mem hkl
end Go.Proofs.Ytoolmmjiemkpbaa

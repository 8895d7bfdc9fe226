/-
  Arguments that came in, as the walks of stage 3 want them: slices of bytes, bytes, words.
-/
import Derived.Test.YtkgjbmlgbfejlaaCrcW
import Derived.Test.YtkgjbmlgbfejlaaWf
import Derived.ProofKit
import Derived.OpenShut
namespace Go.Proofs.Ytkgjbmlgbfejlaa
set_option linter.unusedVariables false
set_option linter.unusedSimpArgs false
open Go.RowKit

theorem u8_of {x : Int} (h : (Lit.int .u8 x).wf = true) : U8 x := by
  simp [Lit.wf, IntKind.min, IntKind.max, IntKind.signed, IntKind.bits] at h
  exact ⟨by omega, by omega⟩
theorem wrd_of {x : Int} (h : (Lit.int .u32 x).wf = true) : ∃ X : B32, x = wrd X := by
  simp [Lit.wf, IntKind.min, IntKind.max, IntKind.signed, IntKind.bits] at h
  refine ⟨BitVec.ofNat 32 x.toNat, ?_⟩
  unfold wrd
  rw [BitVec.toNat_ofNat]
  omega
theorem rb_of {w : World} {A : Option Addr} {len cap : Nat} {zs : List Int}
    (h : (A = none ∧ len = 0 ∧ cap = 0 ∧ zs = []) ∨ ∃ x, A = some x ∧ len ≤ cap ∧ cap ≤ maxLen ∧ zs.length = cap ∧ (∀ i, i < zs.length → w.cell? (x.add i) = some (.int .u8 (zs.getD i 0))) ∧ ∀ n ∈ zs, (Lit.int .u8 n).wf = true) :
    (zs.take len).length = len ∧ RdB w w.heap.size A (zs.take len) ∧ len ≤ cap ∧ cap ≤ maxLen ∧ (A = none → cap = 0) := by
  rcases h with ⟨rfl, rfl, rfl, rfl⟩ | ⟨x, rfl, h1, h2, h3, h4, h5⟩
  · exact ⟨rfl, fun k hk => absurd hk (by simp), Nat.le_refl _, Nat.zero_le _, fun _ => rfl⟩
  · refine ⟨by rw [List.length_take]; omega, ?_, h1, h2, fun e => by cases e⟩
    refine RdB.take (fun k hk => ?_) len
    obtain ⟨b, o, rfl, hc⟩ := ints_at h4 (by omega)
    refine ⟨b, o, rfl, ?_, hc k hk, ?_⟩
    · exact World.block_lt_of_cell? _ _ (hc k hk)
    · refine u8_of (h5 _ ?_)
      rw [List.getD_eq_getElem?_getD, List.getElem?_eq_getElem hk]
      exact List.getElem_mem hk
end Go.Proofs.Ytkgjbmlgbfejlaa

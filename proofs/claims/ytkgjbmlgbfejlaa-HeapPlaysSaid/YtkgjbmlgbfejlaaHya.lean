/-
  A list of asks of package heap's law as an argument's reading has it.
-/
import Derived.Test.YtkgjbmlgbfejlaaHy
import Derived.Test.YtkgjbmlgbfejlaaWf
import Derived.Test.YtkgjbmlgbfejlaaSlF
namespace Go.Proofs.Ytkgjbmlgbfejlaa
set_option linter.unusedVariables false
set_option linter.unusedSimpArgs false
open Go.RowKit Go.ChangeShapes Go.WideShapes Go.Deep

theorem ask8_of {H : Type} {enc : TypeId × Value → H} {w : World} {fuel : Nat} {A : Option Addr} {len cap : Nat} {x : DataW H × List MemPlace} (h : DataW.trod enc Try.prog w 0 (fun _ => true) true fuel 32 [.slice A len cap] = some x) :
    ∃ f, Ask8 w A len f ∧ len ≤ cap ∧ cap ≤ maxLen := by
  obtain ⟨h1, h2, h3, h4⟩ := open_slice_fields Try.underlying32 Try.underlying34 (hone_of (by kernel_rfl)) (by kernel_rfl) (by decide) h
  have key : ∀ k, k < len → ∃ d : Int × Int, ∃ b o, A = some ⟨b, o, none⟩ ∧ b < w.heap.size ∧ w.cell? ⟨b, o + k * 2, none⟩ = some (.int .i64 d.1) ∧ w.cell? ⟨b, o + k * 2 + 1, none⟩ = some (.int .i64 d.2) := fun k hk => by
    obtain ⟨b, o, n, e1, hf⟩ := h4 k hk
    obtain ⟨v0, y0, c0, t0⟩ := hf 0 _ rfl
    obtain ⟨v1, y1, c1, t1⟩ := hf 1 _ rfl
    obtain ⟨z0, g0, _, q0⟩ := DataW.trod_int Try.underlying3 t0
    obtain ⟨z1, g1, _, q1⟩ := DataW.trod_int Try.underlying3 t1
    injection g0 with g0; injection g1 with g1
    subst g0 g1
    exact ⟨(z0, z1), b, o, e1, World.block_lt_of_cell? _ _ c0, c0, c1⟩
  obtain ⟨f, hf⟩ := choose_lt (n := len) key
  exact ⟨f, fun k hk => hf k hk, h1, h2⟩
end Go.Proofs.Ytkgjbmlgbfejlaa

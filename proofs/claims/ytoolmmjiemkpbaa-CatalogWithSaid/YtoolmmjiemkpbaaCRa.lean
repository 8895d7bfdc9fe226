/-
  The document's own RightCard (sheafref5): whether a card is right.
-/
import Derived.Test.YtoolmmjiemkpbaaCt
import Derived.Test.YtoolmmjiemkpbaaWCell
import Derived.WalkSpells
import Derived.WalkLawsBesides
namespace Go.Proofs.Ytoolmmjiemkpbaa
set_option linter.unusedVariables false
set_option linter.unusedSimpArgs false
open Go.RowKit

def I64x (n : Int) : Prop := -9223372036854775808 ≤ n ∧ n ≤ 9223372036854775807
structure Cd.Ok (q : Cd) : Prop where
  a : I64x q.frm
  b : I64x q.to_
  c : I64x q.budget
  d : I64x q.fan
/-- A card's cells. -/
def cdv (c : Cd) : List Value := [.int .i64 c.frm, .int .i64 c.to_, .int .i64 c.budget, .int .i64 c.fan]
/-- Is it right? -/
def Cd.rt (c : Cd) : Bool := decide (0 ≤ c.frm) && (decide (c.frm ≤ c.to_) && (decide (c.to_ ≤ 1073741824) && (decide (2 ≤ c.budget) && (decide (c.budget ≤ 64) && (decide (2 ≤ c.fan) && decide (c.fan ≤ 16))))))
theorem Cd.rt_iff {c : Cd} : c.rt = true ↔ c.Right := by
  unfold Cd.rt
  simp only [Bool.and_eq_true, decide_eq_true_eq]
  exact ⟨fun ⟨a, b, c, d, e, f, g⟩ => ⟨a, b, c, ⟨d, e⟩, ⟨f, g⟩⟩, fun ⟨a, b, c, ⟨d, e⟩, ⟨f, g⟩⟩ => ⟨a, b, c, d, e, f, g⟩⟩
theorem Cd.rt_no {c : Cd} : c.rt = false ↔ ¬ c.Right := by rw [← Cd.rt_iff]; cases c.rt <;> simp
end Go.Proofs.Ytoolmmjiemkpbaa

/-
  The document's own PutCatalog (sheafref5): of a right catalog its leaf; of another one zero.
-/
import Derived.Test.YtoolmmjiemkpbaaCRb
import Derived.Test.YtoolmmjiemkpbaaCB
import Derived.Test.YtoolmmjiemkpbaaLRn
import Derived.Laws.CopyOwn
import Derived.Deep.RegionHeldLaw
namespace Go.Proofs.Ytoolmmjiemkpbaa
set_option linter.unusedVariables false
set_option linter.unusedSimpArgs false
open Go.RowKit

theorem by4_low (n : Int) : lowL n 4 = by4 n := by
  show [n / 2 ^ (8 * 0) % 256, n / 2 ^ (8 * 1) % 256, n / 2 ^ (8 * 2) % 256, n / 2 ^ (8 * 3) % 256] = _
  have e0 : n / 2 ^ (8 * 0) = n := by simp
  have e1 : (2 : Int) ^ (8 * 1) = 256 := by decide
  have e2 : (2 : Int) ^ (8 * 2) = 65536 := by decide
  have e3 : (2 : Int) ^ (8 * 3) = 16777216 := by decide
  rw [e0, e1, e2, e3]
  rfl
theorem Keep.cellK {F : Nat → Prop} {w w' : World} (h : Keep F w w') {a : Addr} (hl : a.block < w.heap.size) (hn : ¬ F a.block) : w'.cell? a = w.cell? a :=
  World.cell?_of_block (h.block a.block hl hn)
def PutC (w : World) (c : Ct) (e : Ending) (w' : World) : Prop := e = .returned (.agg (lv c.putL).toArray) ∧ Below w.heap.size w w'
end Go.Proofs.Ytoolmmjiemkpbaa

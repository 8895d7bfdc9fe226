/-
  The document's own RightLeaf (sheafref5): whether a leaf is right.
-/
import Derived.Test.YtoolmmjiemkpbaaLRa
namespace Go.Proofs.Ytoolmmjiemkpbaa
set_option linter.unusedVariables false
set_option linter.unusedSimpArgs false
open Go.RowKit

end Go.Proofs.Ytoolmmjiemkpbaa

/-
  Small steps for the laws of stage 6: two leaves compared in a drawn region; what Get answers is right.
-/
import Derived.Test.YtjiigbmfbmkhjaaCPh
namespace Go.Proofs.Ytjiigbmfbmkhjaa
set_option linter.unusedVariables false
set_option linter.unusedSimpArgs false
set_option maxRecDepth 100000
open Go.RowKit

section
variable {o : Oper} {a : Act} {w : World}
theorem exec_eql_lf {x y : Operand} {t : TypeId} (ho : o.op = .binOp .eql 32 x y t) {L M : Lf} (hl : L.Ok) (hm : M.Ok) (hx : a.eval x = .agg (lv L).toArray) (hy : a.eval y = .agg (lv M).toArray) : (execOp a.eval o).run Try.prog w = .ok (.value (.bool (decide (L = M)))) w := by
  unfold execOp
  simp only [ho, hx, hy, eqlLf_eq, lf_guard, eqlLf_run hl hm, Sem.run_bind, Sem.run_pure, Result.andThen_ok]
end
end Go.Proofs.Ytjiigbmfbmkhjaa

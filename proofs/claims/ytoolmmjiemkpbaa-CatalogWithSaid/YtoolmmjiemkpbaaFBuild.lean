/-
  A leaf of five numbers, built in a walk.
-/
import Derived.Test.YtoolmmjiemkpbaaLS
namespace Go.Proofs.Ytoolmmjiemkpbaa
set_option linter.unusedVariables false
set_option linter.unusedSimpArgs false
set_option maxRecDepth 100000
open Go.RowKit

theorem Try.places_leaf : (match Try.prog.underlying 82 with | some (.struct fs) => fs.toList.mapM (fun f => (Try.prog.info? f.type).map fun i => (f.offset, i.size)) | _ => none) = some [(0, 1), (1, 1), (2, 1), (3, 1), (4, 1), (5, 116)] := by kernel_rfl
theorem built_five (k f p n s : Int) : Try.prog.built 82 [(0, .int .i64 k), (1, .int .i64 f), (2, .int .i64 p), (3, .int .i64 n), (4, .int .i64 s)] = some (lv ⟨k, f, p, n, s, zeros 116⟩).toArray := by
  have h1 := Try.zero_leaf
  have h2 := Try.places_leaf
  unfold Program.built
  cases hi : Try.prog.info? 82 with
  | none => rw [hi] at h1; cases h1
  | some it =>
    rw [hi] at h1
    simp at h1
    cases hu : Try.prog.underlying 82 with
    | none => rw [hu] at h2; cases h2
    | some d =>
      rw [hu] at h2
      cases d <;> try (simp at h2; done)
      rename_i fs
      simp only at h2
      simp only [h1.1, h2]
      simp [Instr.fill, Value.cells, lv, Lf.zero, zeros]
theorem build_five {ops : Array Oper} {rs : List Oper} {o : Oper} {a : Act} {w : World} {Q : Exit → Act → World → Prop} (hgd : o.guard = none) (x0 x1 x2 x3 x4 : Operand) (ho : o.op = .build 82 #[(0, x0), (1, x1), (2, x2), (3, x3), (4, x4)]) (k f p n s : Int)
    (h0 : a.eval x0 = .int .i64 k) (h1 : a.eval x1 = .int .i64 f) (h2 : a.eval x2 = .int .i64 p) (h3 : a.eval x3 = .int .i64 n) (h4 : a.eval x4 = .int .i64 s)
    (h : wpList Try.prog ops Q rs (a.put o.dst (.agg (lv ⟨k, f, p, n, s, zeros 116⟩).toArray)) w) : wpList Try.prog ops Q (o :: rs) a w :=
  wpList_plain hgd fun K hK => by
    unfold Oper.wp execOp
    have e : (#[(0, x0), (1, x1), (2, x2), (3, x3), (4, x4)] : Array (Nat × Operand)).map (fun x => (x.1, a.eval x.2)) = #[(0, .int .i64 k), (1, .int .i64 f), (2, .int .i64 p), (3, .int .i64 n), (4, .int .i64 s)] := by simp [h0, h1, h2, h3, h4]
    simp only [ho, e, run_build w 82 #[(0, .int .i64 k), (1, .int .i64 f), (2, .int .i64 p), (3, .int .i64 n), (4, .int .i64 s)] _ (built_five k f p n s), Sem.run_bind, Sem.run_pure, Result.andThen_ok]
    exact hK _ _ h
/-- A load of a whole leaf, by its own name. -/
def loadLf (p : Value) : Sem Value := Instr.loadAt 82 p
theorem loadLf_eq (p : Value) : Instr.loadAt 82 p = loadLf p := rfl
theorem loadLf_run {w : World} {b : Nat} {L : Lf} (h : LfAt w b L) : (loadLf (.pointer (some ⟨b, 0, none⟩))).run Try.prog w = .ok (.agg (lv L).toArray) w :=
  run_loadAt_mid w b 0 _ (lv L) _ h.range Try.underlying82 rfl (by rw [lv_len h.2]; exact Try.size_leaf)
/-- Two leaves compared, by its own name. -/
def eqlLf (x y : Value) : Sem Value := binOp .eql 82 x y
theorem eqlLf_eq (x y : Value) : binOp .eql 82 x y = eqlLf x y := rfl
theorem eqlLf_run {L M : Lf} (hl : L.Ok) (hm : M.Ok) (w : World) : (eqlLf (.agg (lv L).toArray) (.agg (lv M).toArray)).run Try.prog w = .ok (.bool (decide (L = M))) w := run_eql_leaf hl hm w
def neqLf (x y : Value) : Sem Value := binOp .neq 82 x y
theorem neqLf_eq (x y : Value) : binOp .neq 82 x y = neqLf x y := rfl
theorem neqLf_run {L M : Lf} (hl : L.Ok) (hm : M.Ok) (w : World) : (neqLf (.agg (lv L).toArray) (.agg (lv M).toArray)).run Try.prog w = .ok (.bool (!decide (L = M))) w := run_neq_leaf hl hm w
/-- The zero leaf built, by its own name. -/
def zeroLf : Sem Value := Instr.build 82 #[]
theorem zeroLf_eq (f : Nat × Operand → Nat × Value) : Instr.build 82 (Array.map f #[]) = zeroLf := by unfold zeroLf; rw [Array.map_empty]
theorem zeroLf_eq' : Instr.build 82 #[] = zeroLf := rfl
theorem zeroLf_run (w : World) : zeroLf.run Try.prog w = .ok (.agg (lv Lf.zero).toArray) w := run_build w 82 #[] _ built_zero
theorem lf_guard (op : BinOp) (x y : Operand) (xs ys : Array Value) (w : World) : (eqGuard op 82 x y (.agg xs) (.agg ys)).run Try.prog w = .ok () w := run_eqGuard_agg w op _ x y xs ys Try.leaf_guard
end Go.Proofs.Ytoolmmjiemkpbaa

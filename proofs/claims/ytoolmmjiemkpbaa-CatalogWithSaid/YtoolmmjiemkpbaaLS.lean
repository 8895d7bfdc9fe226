/-
  Whole leaves in a walk: made, laid into variables, returned.
-/
import Derived.Test.YtoolmmjiemkpbaaLB
import Derived.Test.YtoolmmjiemkpbaaWMake
namespace Go.Proofs.Ytoolmmjiemkpbaa
set_option linter.unusedVariables false
set_option linter.unusedSimpArgs false
set_option maxRecDepth 100000
open Go.RowKit

section
variable {ops : Array Oper} {rs : List Oper} {o : Oper} {a : Act} {w : World} {Q : Exit → Act → World → Prop}
theorem zero_run (w : World) : (zeroValue 82).run Try.prog w = .ok (.agg (lv Lf.zero).toArray) w := (zero_of_info Try.zero_leaf).1 w
theorem alloc_leaf (hgd : o.guard = none) (ho : o.op = .alloc 82)
    (h : ∀ w1, LfAt w1 w.heap.size Lf.zero → Below w.heap.size w w1 → w1.heap.size = w.heap.size + 1 → wpList Try.prog ops Q rs (a.put o.dst (.pointer (some ⟨w.heap.size, 0, none⟩))) w1) : wpList Try.prog ops Q (o :: rs) a w :=
  wpList_plain hgd fun K hK => by
    unfold Oper.wp execOp
    simp only [ho, Instr.alloc, newVar, newRow, newObj, Value.cells, Sem.run_bind, Sem.run_pure, Result.andThen_ok, zero_run]
    exact hK _ _ (h _ (LfAt.new w Lf.zero_ok) ((Below.refl _ _).alloc (Nat.le_refl _) _) (by simp))
theorem store_run {b : Nat} {L0 L : Lf} (h0 : LfAt w b L0) (hL : L.Ok) : (storeVar 82 ⟨b, 0, none⟩ (.agg (lv L).toArray)).run Try.prog w = .ok () (w.setRow b (lv L).toArray) :=
  run_storeVar_row w b _ _ _ _ h0.1 (by rw [List.size_toArray, lv_len hL]; exact Try.size_leaf) (by rw [List.size_toArray, List.size_toArray, lv_len hL, lv_len h0.2]) (all_oneCell_toArray (lv_one L))
theorem keep_setRow (w : World) (b : Nat) (cs : Array Value) : Keep (· = b) w (w.setRow b cs) := ⟨rfl, rfl, rfl, by simp [World.setRow], fun k hk hn => setRow_other w b k cs hn⟩
theorem LfAt.setRow {b : Nat} {L0 L : Lf} (h0 : LfAt w b L0) (hL : L.Ok) : LfAt (w.setRow b (lv L).toArray) b L := ⟨setRow_heap w b _ _ _ _ h0.1, hL⟩
/-- A leaf's variable takes another one. -/
theorem store_leaf (hgd : o.guard = none) (x y : Operand) (ho : o.op = .store 82 x y) (b : Nat) (L0 L : Lf) (h0 : LfAt w b L0) (hL : L.Ok) (hx : a.eval x = .pointer (some ⟨b, 0, none⟩)) (hy : a.eval y = .agg (lv L).toArray)
    (h : ∀ w1, LfAt w1 b L → Keep (· = b) w w1 → w1.heap.size = w.heap.size → wpList Try.prog ops Q rs (a.put o.dst undef) w1) : wpList Try.prog ops Q (o :: rs) a w :=
  wpList_plain hgd fun K hK => by
    unfold Oper.wp execOp
    simp only [ho, hx, hy, Instr.storeAt, Instr.sureAddr, Sem.run_bind, Sem.run_pure, Result.andThen_ok, store_run h0 hL]
    exact hK _ _ (h _ (h0.setRow hL) (keep_setRow w b _) (by simp [World.setRow]))
theorem built_zero : Try.prog.built 82 [] = some (lv Lf.zero).toArray := by
  have h1 := Try.zero_leaf
  unfold Program.built
  cases hi : Try.prog.info? 82 with
  | none => rw [hi] at h1; cases h1
  | some it =>
    rw [hi] at h1
    simp at h1
    rw [Try.underlying82]
    simp only [h1.1]
    rfl
theorem build_zero (hgd : o.guard = none) (ho : o.op = .build 82 #[])
    (h : wpList Try.prog ops Q rs (a.put o.dst (.agg (lv Lf.zero).toArray)) w) : wpList Try.prog ops Q (o :: rs) a w :=
  wpList_plain hgd fun K hK => by
    unfold Oper.wp execOp
    simp only [ho, Array.map_empty, run_build w 82 #[] _ built_zero, Sem.run_bind, Sem.run_pure, Result.andThen_ok]
    exact hK _ _ h
end
theorem load_run {w : World} {b : Nat} {L : Lf} (h : LfAt w b L) : (loadVar 82 ⟨b, 0, none⟩).run Try.prog w = .ok (.agg (lv L).toArray) w :=
  run_loadVar_mid w b 0 _ (lv L) _ h.range Try.underlying82 rfl (by rw [lv_len h.2]; exact Try.size_leaf)
/-- A leaf and a bool are returned. -/
theorem ret_leaf {fn : Func} {R : Ending → World → Prop} {a : Act} {w : World} {b : Nat} {L : Lf} {q : Bool} (i j : Nat) (hf : fn.results = #[.cell i 82, .tmp j]) (hi : a.tmps.getD i undef = .pointer (some ⟨b, 0, none⟩)) (hj : a.tmps.getD j undef = .bool q) (h : LfAt w b L) (hd : a.defers = [])
    (hR : R (.returned (.tuple #[.agg (lv L).toArray, .bool q])) w) : bodyPost Try.prog fn R .ret a w := by
  refine bodyPost_ret (v := .tuple #[.agg (lv L).toArray, .bool q]) ?_ hd hR
  unfold results
  rw [hf]
  rw [Array.getD_eq_getD_getElem?] at hi hj
  simp [hi, hj, asAddr, load_run h]
end Go.Proofs.Ytoolmmjiemkpbaa

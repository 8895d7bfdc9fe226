/-
  Whole catalogs in a walk: made, laid into variables, returned.
-/
import Derived.Test.YtoolmmjiemkpbaaCF
import Derived.Test.YtoolmmjiemkpbaaLS
namespace Go.Proofs.Ytoolmmjiemkpbaa
set_option linter.unusedVariables false
set_option linter.unusedSimpArgs false
set_option maxRecDepth 100000
open Go.RowKit

theorem Try.zero_ct : (Try.prog.info? 27).map (fun i => (i.zero, i.size)) = some (some (.agg (ctv Ct.zero none 0 0).toArray), 9) := by kernel_rfl
theorem ctv_one (c : Ct) (A : Option Addr) (n cap : Nat) : ∀ u, u ∈ ctv c A n cap → u.oneCell' = true := fun u h => by
  unfold ctv at h
  simp at h
  rcases h with rfl | rfl | rfl | rfl | rfl | rfl | rfl | rfl | rfl <;> rfl
section
variable {ops : Array Oper} {rs : List Oper} {o : Oper} {a : Act} {w : World} {Q : Exit → Act → World → Prop}
theorem zero_ct_run (w : World) : (zeroValue 27).run Try.prog w = .ok (.agg (ctv Ct.zero none 0 0).toArray) w := (zero_of_info Try.zero_ct).1 w
theorem alloc_ct (hgd : o.guard = none) (ho : o.op = .alloc 27)
    (h : ∀ w1, CtAt w1 w.heap.size Ct.zero none 0 0 → Below w.heap.size w w1 → w1.heap.size = w.heap.size + 1 → wpList Try.prog ops Q rs (a.put o.dst (.pointer (some ⟨w.heap.size, 0, none⟩))) w1) : wpList Try.prog ops Q (o :: rs) a w :=
  wpList_plain hgd fun K hK => by
    unfold Oper.wp execOp
    simp only [ho, Instr.alloc, newVar, newRow, newObj, Value.cells, Sem.run_bind, Sem.run_pure, Result.andThen_ok, zero_ct_run]
    exact hK _ _ (h _ (Arr.new w _ _) ((Below.refl _ _).alloc (Nat.le_refl _) _) (by simp))
theorem store_ct_run {b : Nat} {c0 c : Ct} {A0 A : Option Addr} {n0 n k0 k : Nat} (h0 : CtAt w b c0 A0 n0 k0) : (storeVar 27 ⟨b, 0, none⟩ (.agg (ctv c A n k).toArray)).run Try.prog w = .ok () (w.setRow b (ctv c A n k).toArray) :=
  run_storeVar_row w b _ _ _ _ h0 (by rw [List.size_toArray]; exact Try.size_ct) (by rw [List.size_toArray, List.size_toArray]; rfl) (all_oneCell_toArray (ctv_one c A n k))
/-- A catalog's variable takes another one. -/
theorem store_ct (hgd : o.guard = none) (x y : Operand) (ho : o.op = .store 27 x y) (b : Nat) (c0 c : Ct) (A0 A : Option Addr) (n0 n k0 k : Nat) (h0 : CtAt w b c0 A0 n0 k0) (hx : a.eval x = .pointer (some ⟨b, 0, none⟩)) (hy : a.eval y = .agg (ctv c A n k).toArray)
    (h : ∀ w1, CtAt w1 b c A n k → Keep (· = b) w w1 → w1.heap.size = w.heap.size → wpList Try.prog ops Q rs (a.put o.dst undef) w1) : wpList Try.prog ops Q (o :: rs) a w :=
  wpList_plain hgd fun K hK => by
    unfold Oper.wp execOp
    simp only [ho, hx, hy, Instr.storeAt, Instr.sureAddr, Sem.run_bind, Sem.run_pure, Result.andThen_ok, store_ct_run h0]
    exact hK _ _ (h _ (setRow_heap w b _ _ _ _ h0) (keep_setRow w b _) (by simp [World.setRow]))
theorem built_ct0 : Try.prog.built 27 [] = some (ctv Ct.zero none 0 0).toArray := by
  have h1 := Try.zero_ct
  unfold Program.built
  cases hi : Try.prog.info? 27 with
  | none => rw [hi] at h1; cases h1
  | some it =>
    rw [hi] at h1
    simp at h1
    rw [Try.underlying27]
    simp only [h1.1]
    rfl
theorem build_ct0 (hgd : o.guard = none) (ho : o.op = .build 27 #[])
    (h : wpList Try.prog ops Q rs (a.put o.dst (.agg (ctv Ct.zero none 0 0).toArray)) w) : wpList Try.prog ops Q (o :: rs) a w :=
  wpList_plain hgd fun K hK => by
    unfold Oper.wp execOp
    simp only [ho, Array.map_empty, run_build w 27 #[] _ built_ct0, Sem.run_bind, Sem.run_pure, Result.andThen_ok]
    exact hK _ _ h
end
theorem load_ct_run {w : World} {b : Nat} {c : Ct} {A : Option Addr} {n k : Nat} (h : CtAt w b c A n k) : (loadVar 27 ⟨b, 0, none⟩).run Try.prog w = .ok (.agg (ctv c A n k).toArray) w :=
  run_loadVar_mid w b 0 _ (ctv c A n k) _ h.range Try.underlying27 rfl Try.size_ct
/-- A catalog and a bool are returned. -/
theorem ret_ct {fn : Func} {R : Ending → World → Prop} {a : Act} {w : World} {b : Nat} {c : Ct} {A : Option Addr} {n k : Nat} {q : Bool} (i j : Nat) (hf : fn.results = #[.cell i 27, .tmp j]) (hi : a.tmps.getD i undef = .pointer (some ⟨b, 0, none⟩)) (hj : a.tmps.getD j undef = .bool q) (h : CtAt w b c A n k) (hd : a.defers = [])
    (hR : R (.returned (.tuple #[.agg (ctv c A n k).toArray, .bool q])) w) : bodyPost Try.prog fn R .ret a w := by
  refine bodyPost_ret (v := .tuple #[.agg (ctv c A n k).toArray, .bool q]) ?_ hd hR
  unfold results
  rw [hf]
  rw [Array.getD_eq_getD_getElem?] at hi hj
  simp [hi, hj, asAddr, load_ct_run h]
/-- A catalog alone is returned. -/
theorem ret_ct1 {fn : Func} {R : Ending → World → Prop} {a : Act} {w : World} {b : Nat} {c : Ct} {A : Option Addr} {n k : Nat} (i : Nat) (hf : fn.results = #[.cell i 27]) (hi : a.tmps.getD i undef = .pointer (some ⟨b, 0, none⟩)) (h : CtAt w b c A n k) (hd : a.defers = [])
    (hR : R (.returned (.agg (ctv c A n k).toArray)) w) : bodyPost Try.prog fn R .ret a w := by
  refine bodyPost_ret (v := .agg (ctv c A n k).toArray) ?_ hd hR
  unfold results
  rw [hf]
  rw [Array.getD_eq_getD_getElem?] at hi
  simp [hi, asAddr, load_ct_run h]
/-- The row of files takes another place. -/
theorem CtAt.files {w : World} {b : Nat} {c : Ct} {A A' : Option Addr} {n k n' k' : Nat} (h : CtAt w b c A n k) : CtAt (w.setCell ⟨b, 8, none⟩ (.slice A' n' k')) b c A' n' k' := Arr.set h 8 _
end Go.Proofs.Ytoolmmjiemkpbaa

/-
  A leaf in memory: its cells, as one value, in a block of its own; two of them compared.
-/
import Derived.Test.YtoolmmjiemkpbaaLf
import Derived.Test.YtoolmmjiemkpbaaWArr
import Derived.Test.YtoolmmjiemkpbaaWMake
import Derived.Deep.MidRow
import Derived.Deep.WholeRow
import Derived.ChangeKeysEq
namespace Go.Proofs.Ytoolmmjiemkpbaa
set_option linter.unusedVariables false
set_option linter.unusedSimpArgs false
open Go.RowKit

/-- A leaf's cells. -/
def lv (L : Lf) : List Value := .int .i64 L.kind :: .int .i64 L.file :: .int .i64 L.place :: .int .i64 L.next :: .int .i64 L.size :: vals L.load
theorem lv_len {L : Lf} (h : L.Ok) : (lv L).length = 121 := by unfold lv; simp only [List.length_cons, vals_length, h.l]
theorem lv_one (L : Lf) (v : Value) (h : v ∈ lv L) : v.oneCell' = true := by
  unfold lv at h
  simp only [List.mem_cons] at h
  rcases h with rfl | rfl | rfl | rfl | rfl | h
  · rfl
  · rfl
  · rfl
  · rfl
  · rfl
  · unfold vals at h
    rw [List.mem_map] at h
    obtain ⟨x, _, rfl⟩ := h
    rfl
theorem lv_load {L : Lf} (h : L.Ok) (k : Nat) (hk : k < 116) : (lv L)[5 + k]? = some (.int .u8 (L.load.getD k 0)) := by
  rw [Nat.add_comm]
  show (vals L.load)[k]? = _
  exact vals_at _ _ (by rw [h.l]; exact hk)
theorem Try.size_leaf : (Try.prog.info? 82).map (·.size) = some 121 := by kernel_rfl
theorem Try.zero_leaf : (Try.prog.info? 82).map (fun i => (i.zero, i.size)) = some (some (.agg (lv Lf.zero).toArray), 121) := by kernel_rfl
theorem Try.cells_byte : Try.prog.cellsOf 5 = 1 := by kernel_rfl
theorem Try.leaf_held : Try.prog.stoodInHeld 82 = false := by kernel_rfl
theorem Try.leaf_guard : Try.prog.eqGuardType Try.prog.depth 82 = false := by kernel_rfl

theorem vals_arr_at (xs : List Int) (k : Nat) (h : k < xs.length) : (vals xs).toArray[k]? = some (.int .u8 (xs.getD k 0)) := by
  rw [← Array.getElem?_toList]; exact vals_at xs k h
/-- Bytes compared, one by one. -/
theorem items_run (d : Nat) (w : World) (xs ys : List Int) : ∀ (is : List Nat), (∀ i ∈ is, i < xs.length ∧ i < ys.length) →
    (Op.eqItems (d + 1) 5 1 (vals xs).toArray (vals ys).toArray is).run Try.prog w = .ok (is.all (fun i => xs.getD i 0 == ys.getD i 0)) w
  | [], _ => by simp [Op.eqItems]
  | i :: is, h => by
    have ih := items_run d w xs ys is (fun j hj => h j (by simp [hj]))
    obtain ⟨h1, h2⟩ := h i (by simp)
    have p1 : (part 5 (vals xs).toArray (i * 1)).run Try.prog w = .ok (.int .u8 (xs.getD i 0)) w := by
      rw [Nat.mul_one]; simp [part, isAgg, run_underlying Try.underlying5, vals_arr_at xs i h1]
    have p2 : (part 5 (vals ys).toArray (i * 1)).run Try.prog w = .ok (.int .u8 (ys.getD i 0)) w := by
      rw [Nat.mul_one]; simp [part, isAgg, run_underlying Try.underlying5, vals_arr_at ys i h2]
    have p3 := run_equalIn_int w d 5 .u8 .u8 (xs.getD i 0) (ys.getD i 0) Try.underlying5
    simp only [Op.eqItems, Sem.run_bind, p1, p2, p3, Result.andThen_ok, List.all_cons]
    cases xs.getD i 0 == ys.getD i 0
    · simp
    · simpa using ih
theorem all_same (xs ys : List Int) (n : Nat) (hx : xs.length = n) (hy : ys.length = n) : (List.range n).all (fun i => xs.getD i 0 == ys.getD i 0) = decide (xs = ys) := by
  rw [Bool.eq_iff_iff, List.all_eq_true, decide_eq_true_eq]
  constructor
  · intro h
    apply List.ext_getElem?
    intro i
    by_cases hi : i < n
    · have := h i (List.mem_range.2 hi)
      rw [beq_iff_eq, List.getD_eq_getElem?_getD, List.getD_eq_getElem?_getD, List.getElem?_eq_getElem (by omega), List.getElem?_eq_getElem (by omega)] at this
      rw [List.getElem?_eq_getElem (by omega), List.getElem?_eq_getElem (by omega)]
      exact congrArg some this
    · rw [List.getElem?_eq_none (by omega), List.getElem?_eq_none (by omega)]
  · intro e i _
    rw [e, beq_self_eq_true]
instance lfDec : DecidableEq Lf := fun a b => decidable_of_iff (a.kind = b.kind ∧ a.file = b.file ∧ a.place = b.place ∧ a.next = b.next ∧ a.size = b.size ∧ a.load = b.load)
  ⟨fun ⟨h1, h2, h3, h4, h5, h6⟩ => by cases a; cases b; simp only at h1 h2 h3 h4 h5 h6; rw [h1, h2, h3, h4, h5, h6], fun e => by rw [e]; exact ⟨rfl, rfl, rfl, rfl, rfl, rfl⟩⟩
theorem lf_dec (L M : Lf) : decide (L = M) = (decide (L.kind = M.kind) && (decide (L.file = M.file) && (decide (L.place = M.place) && (decide (L.next = M.next) && (decide (L.size = M.size) && decide (L.load = M.load)))))) := by
  rw [Bool.eq_iff_iff]
  simp only [Bool.and_eq_true, decide_eq_true_eq]
  exact ⟨fun e => by rw [e]; exact ⟨rfl, rfl, rfl, rfl, rfl, rfl⟩, fun ⟨h1, h2, h3, h4, h5, h6⟩ => by cases L; cases M; simp only at h1 h2 h3 h4 h5 h6; rw [h1, h2, h3, h4, h5, h6]⟩
theorem lv_extract {L : Lf} (h : L.Ok) : (lv L).toArray.extract 5 121 = (vals L.load).toArray := by
  apply Array.toList_inj.1
  have : (vals L.load).length = 116 := by rw [vals_length, h.l]
  rw [Array.toList_extract]
  show ((lv L).drop 5).take 116 = vals L.load
  show (vals L.load).take 116 = vals L.load
  rw [List.take_of_length_le (by omega)]
theorem fields_step {w : World} {d : Nat} {xs ys : Array Value} {f : Field} {fs : List Field} {a b : Value} {r s : Bool} (hn : f.name ≠ "_") (p1 : (part f.type xs f.offset).run Try.prog w = .ok a w) (p2 : (part f.type ys f.offset).run Try.prog w = .ok b w) (p3 : (Op.equalIn d f.type a b).run Try.prog w = .ok r w) (ih : (Op.eqFields d xs ys fs).run Try.prog w = .ok s w) : (Op.eqFields d xs ys (f :: fs)).run Try.prog w = .ok (r && s) w := by
  rw [Op.eqFields, if_pos hn]
  simp only [Sem.run_bind, p1, p2, p3, Result.andThen_ok]
  cases r
  · rfl
  · exact ih
theorem Try.cells_load : Try.prog.cellsOf 80 = 116 := by kernel_rfl
theorem part_load {L : Lf} (h : L.Ok) (w : World) : (part 80 (lv L).toArray 5).run Try.prog w = .ok (.agg (vals L.load).toArray) w := by
  obtain ⟨i, hi⟩ := info_of_underlying Try.underlying80
  have e := lv_extract h
  unfold part isAgg
  rw [Sem.run_bind, Sem.run_bind, run_underlying Try.underlying80]
  simp only [Result.andThen_ok, Sem.run_pure, if_true, Sem.run_bind, run_sizeOf w hi, Try.cells_load, Nat.reduceAdd, e]
theorem part_int {L : Lf} (w : World) (k : Nat) (n : Int) (h : (lv L)[k]? = some (.int .i64 n)) : (part 3 (lv L).toArray k).run Try.prog w = .ok (.int .i64 n) w := by
  have h' : (lv L).toArray[k]? = some (.int .i64 n) := by rw [← Array.getElem?_toList]; exact h
  generalize (lv L).toArray = A at *
  simp [part, isAgg, run_underlying Try.underlying3, h']
theorem equal_load {L M : Lf} (hl : L.Ok) (hm : M.Ok) (w : World) : (Op.equalIn 9999 80 (.agg (vals L.load).toArray) (.agg (vals M.load).toArray)).run Try.prog w = .ok (decide (L.load = M.load)) w := by
  obtain ⟨i, hi⟩ := info_of_underlying Try.underlying5
  rw [run_equalIn_array w 9998 _ _ Try.underlying80 hi, Try.cells_byte, items_run 9997 w L.load M.load _ (fun j hj => by rw [hl.l, hm.l]; exact ⟨List.mem_range.1 hj, List.mem_range.1 hj⟩), all_same _ _ _ hl.l hm.l]
theorem equal_leaf {L M : Lf} (hl : L.Ok) (hm : M.Ok) (w : World) : (Op.equalIn 10000 82 (.agg (lv L).toArray) (.agg (lv M).toArray)).run Try.prog w = .ok (decide (L = M)) w := by
  rw [run_equalIn_struct w 9999 82 _ _ (by unfold Program.fieldsOf; rw [Try.underlying82]) Try.leaf_held]
  unfold Program.fieldsOf
  rw [Try.underlying82, lf_dec]
  have t (a b : Int) : (Op.equalIn 9999 3 (.int .i64 a) (.int .i64 b)).run Try.prog w = .ok (decide (a = b)) w := run_equalIn_int w 9998 3 .i64 .i64 a b Try.underlying3
  have z : (Op.eqFields 9999 (lv L).toArray (lv M).toArray []).run Try.prog w = .ok true w := rfl
  have h6 := fields_step (f := ⟨"Load", 80, 5, false, "", "", 40⟩) (by decide) (part_load hl w) (part_load hm w) (equal_load hl hm w) z
  rw [Bool.and_true] at h6
  exact fields_step (by decide) (part_int w 0 _ rfl) (part_int w 0 _ rfl) (t _ _) (fields_step (by decide) (part_int w 1 _ rfl) (part_int w 1 _ rfl) (t _ _) (fields_step (by decide) (part_int w 2 _ rfl) (part_int w 2 _ rfl) (t _ _) (fields_step (by decide) (part_int w 3 _ rfl) (part_int w 3 _ rfl) (t _ _) (fields_step (by decide) (part_int w 4 _ rfl) (part_int w 4 _ rfl) (t _ _) h6))))
theorem run_eql_leaf {L M : Lf} (hl : L.Ok) (hm : M.Ok) (w : World) : (binOp .eql 82 (.agg (lv L).toArray) (.agg (lv M).toArray)).run Try.prog w = .ok (.bool (decide (L = M))) w := by
  rw [run_eql_struct, equal_leaf hl hm]; rfl
theorem run_neq_leaf {L M : Lf} (hl : L.Ok) (hm : M.Ok) (w : World) : (binOp .neq 82 (.agg (lv L).toArray) (.agg (lv M).toArray)).run Try.prog w = .ok (.bool (!decide (L = M))) w := by
  rw [run_neq_struct, equal_leaf hl hm]; rfl
end Go.Proofs.Ytoolmmjiemkpbaa

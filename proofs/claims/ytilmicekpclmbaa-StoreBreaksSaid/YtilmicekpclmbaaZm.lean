/-
  A leaf in memory: its cells, as one value, in a block of its own; two of them compared.
  A whole leaf in a walk: boxed, read out of its block, laid into a new variable, returned.
  Whole leaves in a walk: made, laid into variables, returned.
  A leaf of five numbers, built in a walk.
-/
import Derived.Test.YtilmicekpclmbaaZa
import Derived.Test.YtilmicekpclmbaaZd
import Derived.Test.YtilmicekpclmbaaZb
import Derived.Deep.MidRow
import Derived.Deep.WholeRow
import Derived.ChangeKeysEq
import Derived.OwnWalk
namespace Go.Proofs.Ytilmicekpclmbaa
set_option linter.unusedVariables false
set_option linter.unusedSimpArgs false
open Go.RowKit

/-- A leaf's cells. -/
def lv (L : Lf) : List Value := .int .i64 L.kind :: .int .i64 L.file :: .int .i64 L.place :: .int .i64 L.next :: .int .i64 L.size :: vals L.load
theorem lv_len {L : Lf} (h : L.Ok) : (lv L).length = 121 := by unfold lv; simp only [List.length_cons, vals_length, h.l]
theorem lv_one (L : Lf) (v : Value) (h : v ∈ lv L) : v.oneCell' = true := by
  unfold lv at h
  simp only [List.mem_cons] at h
  rcases h with rfl | rfl | rfl | rfl | rfl | h
  · rfl
  · rfl
  · rfl
  · rfl
  · rfl
  · unfold vals at h
    rw [List.mem_map] at h
    obtain ⟨x, _, rfl⟩ := h
    rfl
theorem lv_load {L : Lf} (h : L.Ok) (k : Nat) (hk : k < 116) : (lv L)[5 + k]? = some (.int .u8 (L.load.getD k 0)) := by
  rw [Nat.add_comm]
  show (vals L.load)[k]? = _
  exact vals_at _ _ (by rw [h.l]; exact hk)
theorem Try.size_leaf : (Try.prog.info? 91).map (·.size) = some 121 := by kernel_rfl
theorem Try.zero_leaf : (Try.prog.info? 91).map (fun i => (i.zero, i.size)) = some (some (.agg (lv Lf.zero).toArray), 121) := by kernel_rfl
theorem Try.cells_byte : Try.prog.cellsOf 5 = 1 := by kernel_rfl
theorem Try.leaf_held : Try.prog.stoodInHeld 91 = false := by kernel_rfl
theorem Try.leaf_guard : Try.prog.eqGuardType Try.prog.depth 91 = false := by kernel_rfl

theorem vals_arr_at (xs : List Int) (k : Nat) (h : k < xs.length) : (vals xs).toArray[k]? = some (.int .u8 (xs.getD k 0)) := by
  rw [← Array.getElem?_toList]; exact vals_at xs k h
/-- Bytes compared, one by one. -/
theorem items_run (d : Nat) (w : World) (xs ys : List Int) : ∀ (is : List Nat), (∀ i ∈ is, i < xs.length ∧ i < ys.length) →
    (Op.eqItems (d + 1) 5 1 (vals xs).toArray (vals ys).toArray is).run Try.prog w = .ok (is.all (fun i => xs.getD i 0 == ys.getD i 0)) w
  | [], _ => by simp [Op.eqItems]
  | i :: is, h => by
    have ih := items_run d w xs ys is (fun j hj => h j (by simp [hj]))
    obtain ⟨h1, h2⟩ := h i (by simp)
    have p1 : (part 5 (vals xs).toArray (i * 1)).run Try.prog w = .ok (.int .u8 (xs.getD i 0)) w := by
      rw [Nat.mul_one]; simp [part, isAgg, run_underlying Try.underlying5, vals_arr_at xs i h1]
    have p2 : (part 5 (vals ys).toArray (i * 1)).run Try.prog w = .ok (.int .u8 (ys.getD i 0)) w := by
      rw [Nat.mul_one]; simp [part, isAgg, run_underlying Try.underlying5, vals_arr_at ys i h2]
    have p3 := run_equalIn_int w d 5 .u8 .u8 (xs.getD i 0) (ys.getD i 0) Try.underlying5
    simp only [Op.eqItems, Sem.run_bind, p1, p2, p3, Result.andThen_ok, List.all_cons]
    cases xs.getD i 0 == ys.getD i 0
    · simp
    · simpa using ih
theorem all_same (xs ys : List Int) (n : Nat) (hx : xs.length = n) (hy : ys.length = n) : (List.range n).all (fun i => xs.getD i 0 == ys.getD i 0) = decide (xs = ys) := by
  rw [Bool.eq_iff_iff, List.all_eq_true, decide_eq_true_eq]
  constructor
  · intro h
    apply List.ext_getElem?
    intro i
    by_cases hi : i < n
    · have := h i (List.mem_range.2 hi)
      rw [beq_iff_eq, List.getD_eq_getElem?_getD, List.getD_eq_getElem?_getD, List.getElem?_eq_getElem (by omega), List.getElem?_eq_getElem (by omega)] at this
      rw [List.getElem?_eq_getElem (by omega), List.getElem?_eq_getElem (by omega)]
      exact congrArg some this
    · rw [List.getElem?_eq_none (by omega), List.getElem?_eq_none (by omega)]
  · intro e i _
    rw [e, beq_self_eq_true]
instance lfDec : DecidableEq Lf := fun a b => decidable_of_iff (a.kind = b.kind ∧ a.file = b.file ∧ a.place = b.place ∧ a.next = b.next ∧ a.size = b.size ∧ a.load = b.load)
  ⟨fun ⟨h1, h2, h3, h4, h5, h6⟩ => by cases a; cases b; simp only at h1 h2 h3 h4 h5 h6; rw [h1, h2, h3, h4, h5, h6], fun e => by rw [e]; exact ⟨rfl, rfl, rfl, rfl, rfl, rfl⟩⟩
theorem lf_dec (L M : Lf) : decide (L = M) = (decide (L.kind = M.kind) && (decide (L.file = M.file) && (decide (L.place = M.place) && (decide (L.next = M.next) && (decide (L.size = M.size) && decide (L.load = M.load)))))) := by
  rw [Bool.eq_iff_iff]
  simp only [Bool.and_eq_true, decide_eq_true_eq]
  exact ⟨fun e => by rw [e]; exact ⟨rfl, rfl, rfl, rfl, rfl, rfl⟩, fun ⟨h1, h2, h3, h4, h5, h6⟩ => by cases L; cases M; simp only at h1 h2 h3 h4 h5 h6; rw [h1, h2, h3, h4, h5, h6]⟩
theorem lv_extract {L : Lf} (h : L.Ok) : (lv L).toArray.extract 5 121 = (vals L.load).toArray := by
  apply Array.toList_inj.1
  have : (vals L.load).length = 116 := by rw [vals_length, h.l]
  rw [Array.toList_extract]
  show ((lv L).drop 5).take 116 = vals L.load
  show (vals L.load).take 116 = vals L.load
  rw [List.take_of_length_le (by omega)]
theorem fields_step {w : World} {d : Nat} {xs ys : Array Value} {f : Field} {fs : List Field} {a b : Value} {r s : Bool} (hn : f.name ≠ "_") (p1 : (part f.type xs f.offset).run Try.prog w = .ok a w) (p2 : (part f.type ys f.offset).run Try.prog w = .ok b w) (p3 : (Op.equalIn d f.type a b).run Try.prog w = .ok r w) (ih : (Op.eqFields d xs ys fs).run Try.prog w = .ok s w) : (Op.eqFields d xs ys (f :: fs)).run Try.prog w = .ok (r && s) w := by
  rw [Op.eqFields, if_pos hn]
  simp only [Sem.run_bind, p1, p2, p3, Result.andThen_ok]
  cases r
  · rfl
  · exact ih
theorem Try.cells_load : Try.prog.cellsOf 89 = 116 := by kernel_rfl
theorem part_load {L : Lf} (h : L.Ok) (w : World) : (part 89 (lv L).toArray 5).run Try.prog w = .ok (.agg (vals L.load).toArray) w := by
  obtain ⟨i, hi⟩ := info_of_underlying Try.underlying89
  have e := lv_extract h
  unfold part isAgg
  rw [Sem.run_bind, Sem.run_bind, run_underlying Try.underlying89]
  simp only [Result.andThen_ok, Sem.run_pure, if_true, Sem.run_bind, run_sizeOf w hi, Try.cells_load, Nat.reduceAdd, e]
theorem part_int {L : Lf} (w : World) (k : Nat) (n : Int) (h : (lv L)[k]? = some (.int .i64 n)) : (part 3 (lv L).toArray k).run Try.prog w = .ok (.int .i64 n) w := by
  have h' : (lv L).toArray[k]? = some (.int .i64 n) := by rw [← Array.getElem?_toList]; exact h
  generalize (lv L).toArray = A at *
  simp [part, isAgg, run_underlying Try.underlying3, h']
theorem equal_load {L M : Lf} (hl : L.Ok) (hm : M.Ok) (w : World) : (Op.equalIn 9999 89 (.agg (vals L.load).toArray) (.agg (vals M.load).toArray)).run Try.prog w = .ok (decide (L.load = M.load)) w := by
  obtain ⟨i, hi⟩ := info_of_underlying Try.underlying5
  rw [run_equalIn_array w 9998 _ _ Try.underlying89 hi, Try.cells_byte, items_run 9997 w L.load M.load _ (fun j hj => by rw [hl.l, hm.l]; exact ⟨List.mem_range.1 hj, List.mem_range.1 hj⟩), all_same _ _ _ hl.l hm.l]
theorem equal_leaf {L M : Lf} (hl : L.Ok) (hm : M.Ok) (w : World) : (Op.equalIn 10000 91 (.agg (lv L).toArray) (.agg (lv M).toArray)).run Try.prog w = .ok (decide (L = M)) w := by
  rw [run_equalIn_struct w 9999 91 _ _ (by unfold Program.fieldsOf; rw [Try.underlying91]) Try.leaf_held]
  unfold Program.fieldsOf
  rw [Try.underlying91, lf_dec]
  have t (a b : Int) : (Op.equalIn 9999 3 (.int .i64 a) (.int .i64 b)).run Try.prog w = .ok (decide (a = b)) w := run_equalIn_int w 9998 3 .i64 .i64 a b Try.underlying3
  have z : (Op.eqFields 9999 (lv L).toArray (lv M).toArray []).run Try.prog w = .ok true w := rfl
  have h6 := fields_step (f := ⟨"Load", 89, 5, false, "", "", 40⟩) (by decide) (part_load hl w) (part_load hm w) (equal_load hl hm w) z
  rw [Bool.and_true] at h6
  exact fields_step (by decide) (part_int w 0 _ rfl) (part_int w 0 _ rfl) (t _ _) (fields_step (by decide) (part_int w 1 _ rfl) (part_int w 1 _ rfl) (t _ _) (fields_step (by decide) (part_int w 2 _ rfl) (part_int w 2 _ rfl) (t _ _) (fields_step (by decide) (part_int w 3 _ rfl) (part_int w 3 _ rfl) (t _ _) (fields_step (by decide) (part_int w 4 _ rfl) (part_int w 4 _ rfl) (t _ _) h6))))
theorem run_eql_leaf {L M : Lf} (hl : L.Ok) (hm : M.Ok) (w : World) : (binOp .eql 91 (.agg (lv L).toArray) (.agg (lv M).toArray)).run Try.prog w = .ok (.bool (decide (L = M))) w := by
  rw [run_eql_struct, equal_leaf hl hm]; rfl
theorem run_neq_leaf {L M : Lf} (hl : L.Ok) (hm : M.Ok) (w : World) : (binOp .neq 91 (.agg (lv L).toArray) (.agg (lv M).toArray)).run Try.prog w = .ok (.bool (!decide (L = M))) w := by
  rw [run_neq_struct, equal_leaf hl hm]; rfl
end Go.Proofs.Ytilmicekpclmbaa
namespace Go.Proofs.Ytilmicekpclmbaa
set_option linter.unusedVariables false
set_option linter.unusedSimpArgs false
open Go.RowKit

/-- A leaf in a block of its own. -/
def LfAt (w : World) (b : Nat) (L : Lf) : Prop := Arr w b 91 (lv L) ∧ L.Ok
theorem LfAt.below {w w' : World} {b : Nat} {L : Lf} (h : LfAt w b L) (hb : Below w.heap.size w w') : LfAt w' b L := ⟨h.1.below hb, h.2⟩
theorem LfAt.same {w w' : World} {b : Nat} {L : Lf} (h : LfAt w b L) (e : w'.heap[b]? = w.heap[b]?) : LfAt w' b L := ⟨h.1.same e, h.2⟩
theorem LfAt.heap {w : World} {b : Nat} {L : Lf} (h : LfAt w b L) : w.heap[b]? = some (.cells (lv L).toArray 91 (0, 0)) := h.1
theorem LfAt.lt {w : World} {b : Nat} {L : Lf} (h : LfAt w b L) : b < w.heap.size := h.1.lt
theorem LfAt.new (w : World) {L : Lf} (h : L.Ok) : LfAt (w.alloc (.cells (lv L).toArray 91)) w.heap.size L := ⟨Arr.new w _ _, h⟩
theorem LfAt.alloc {w : World} {b : Nat} {L : Lf} (h : LfAt w b L) (o : Obj) : LfAt (w.alloc o) b L := h.below ((Below.refl _ _).alloc (Nat.le_refl _) _)
theorem LfAt.far {w : World} {b g k : Nat} {L : Lf} (h : LfAt w b L) (hne : b ≠ g) (v : Value) : LfAt (w.setCell ⟨g, k, none⟩ v) b L := ⟨h.1.far hne v, h.2⟩
theorem LfAt.grown {w w' : World} {b : Nat} {row : Option Nat} {L : Lf} (h : LfAt w b L) (hg : w.grownBy w' row) (hr : row ≠ some b) : LfAt w' b L := h.same (hg.block b h.lt (fun e => hr e.symm))
theorem LfAt.kind {w : World} {b : Nat} {L : Lf} (h : LfAt w b L) : w.cell? ⟨b, 0, none⟩ = some (.int .i64 L.kind) := h.1.cell 0
theorem LfAt.file {w : World} {b : Nat} {L : Lf} (h : LfAt w b L) : w.cell? ⟨b, 1, none⟩ = some (.int .i64 L.file) := h.1.cell 1
theorem LfAt.place {w : World} {b : Nat} {L : Lf} (h : LfAt w b L) : w.cell? ⟨b, 2, none⟩ = some (.int .i64 L.place) := h.1.cell 2
theorem LfAt.next {w : World} {b : Nat} {L : Lf} (h : LfAt w b L) : w.cell? ⟨b, 3, none⟩ = some (.int .i64 L.next) := h.1.cell 3
theorem LfAt.size {w : World} {b : Nat} {L : Lf} (h : LfAt w b L) : w.cell? ⟨b, 4, none⟩ = some (.int .i64 L.size) := h.1.cell 4
theorem LfAt.byte {w : World} {b : Nat} {L : Lf} (h : LfAt w b L) (k : Nat) (hk : k < 116) : w.cell? ⟨b, 5 + k, none⟩ = some (.int .u8 (L.load.getD k 0)) := (h.1.cell (5 + k)).trans (lv_load h.2 k hk)
theorem LfAt.frozen {w : World} {b : Nat} {L : Lf} (h : LfAt w b L) (k : Nat) : w.frozen? ⟨b, k, none⟩ = false := h.1.frozen k
theorem LfAt.range {w : World} {b : Nat} {L : Lf} (h : LfAt w b L) : w.rangeAt b 0 (lv L) := fun j v hv => by rw [h.1.cell, Nat.zero_add]; exact hv
/-- Its load, as a slice that reads. -/
theorem LfAt.reads {w : World} {b : Nat} {L : Lf} (h : LfAt w b L) : RdB w w.heap.size (some ⟨b, 5, none⟩) L.load := fun k hk =>
  ⟨b, 5, rfl, h.lt, h.byte k (by rw [h.2.l] at hk; exact hk), h.2.u k hk⟩
theorem lv_set_load {L : Lf} (k : Nat) (x : Int) : (lv L).set (5 + k) (.int .u8 x) = lv { L with load := L.load.set k x } := by
  rw [Nat.add_comm]
  unfold lv
  show _ :: _ :: _ :: _ :: _ :: (vals L.load).set k (.int .u8 x) = _
  rw [vals_set]
theorem Lf.Ok.put {L : Lf} (h : L.Ok) (k : Nat) (x : Int) (hx : U8 x) : Lf.Ok { L with load := L.load.set k x } :=
  ⟨h.k, h.f, h.p, h.n, h.s, by rw [List.length_set]; exact h.l, fun j hj => by
    rw [List.length_set] at hj
    show U8 ((L.load.set k x).getD j 0)
    rw [getD_set _ _ _ _ hj]
    split
    · exact hx
    · exact h.u j hj⟩
theorem LfAt.store {w : World} {b : Nat} {L : Lf} (h : LfAt w b L) (k : Nat) (x : Int) (hx : U8 x) : LfAt (w.setCell ⟨b, 5 + k, none⟩ (.int .u8 x)) b { L with load := L.load.set k x } :=
  ⟨by have := h.1.set (5 + k) (.int .u8 x); rw [lv_set_load] at this; exact this, h.2.put k x hx⟩

section
variable {ops : Array Oper} {rs : List Oper} {o : Oper} {a : Act} {w : World} {Q : Exit → Act → World → Prop}
theorem box_leaf (hgd : o.guard = none) (x : Operand) (ho : o.op = .box 91 x) (L : Lf) (hL : L.Ok) (hx : a.eval x = .agg (lv L).toArray)
    (h : ∀ w1, LfAt w1 w.heap.size L → Below w.heap.size w w1 → w1.heap.size = w.heap.size + 1 → wpList Try.prog ops Q rs (a.put o.dst (.pointer (some ⟨w.heap.size, 0, none⟩))) w1) : wpList Try.prog ops Q (o :: rs) a w :=
  wpList_plain hgd fun K hK => by
    unfold Oper.wp execOp
    simp only [ho, hx, Instr.box, newVar, newRow, newObj, Value.cells, Sem.run_bind, Sem.run_pure, Result.andThen_ok]
    exact hK _ _ (h _ (LfAt.new w hL) ((Below.refl _ _).alloc (Nat.le_refl _) _) (by simp))
theorem load_leaf (hgd : o.guard = none) (x : Operand) (ho : o.op = .load 91 x) (b : Nat) (L : Lf) (hL : LfAt w b L) (hx : a.eval x = .pointer (some ⟨b, 0, none⟩))
    (h : wpList Try.prog ops Q rs (a.put o.dst (.agg (lv L).toArray)) w) : wpList Try.prog ops Q (o :: rs) a w :=
  wpList_load_mid hgd _ x ho b 0 hx (lv L) _ hL.range Try.underlying91 rfl (by rw [lv_len hL.2]; exact Try.size_leaf) h
end
end Go.Proofs.Ytilmicekpclmbaa
namespace Go.Proofs.Ytilmicekpclmbaa
set_option linter.unusedVariables false
set_option linter.unusedSimpArgs false
set_option maxRecDepth 100000
open Go.RowKit

section
variable {ops : Array Oper} {rs : List Oper} {o : Oper} {a : Act} {w : World} {Q : Exit → Act → World → Prop}
theorem zero_run (w : World) : (zeroValue 91).run Try.prog w = .ok (.agg (lv Lf.zero).toArray) w := (zero_of_info Try.zero_leaf).1 w
theorem alloc_leaf (hgd : o.guard = none) (ho : o.op = .alloc 91)
    (h : ∀ w1, LfAt w1 w.heap.size Lf.zero → Below w.heap.size w w1 → w1.heap.size = w.heap.size + 1 → wpList Try.prog ops Q rs (a.put o.dst (.pointer (some ⟨w.heap.size, 0, none⟩))) w1) : wpList Try.prog ops Q (o :: rs) a w :=
  wpList_plain hgd fun K hK => by
    unfold Oper.wp execOp
    simp only [ho, Instr.alloc, newVar, newRow, newObj, Value.cells, Sem.run_bind, Sem.run_pure, Result.andThen_ok, zero_run]
    exact hK _ _ (h _ (LfAt.new w Lf.zero_ok) ((Below.refl _ _).alloc (Nat.le_refl _) _) (by simp))
theorem store_run {b : Nat} {L0 L : Lf} (h0 : LfAt w b L0) (hL : L.Ok) : (storeVar 91 ⟨b, 0, none⟩ (.agg (lv L).toArray)).run Try.prog w = .ok () (w.setRow b (lv L).toArray) :=
  run_storeVar_row w b _ _ _ _ h0.1 (by rw [List.size_toArray, lv_len hL]; exact Try.size_leaf) (by rw [List.size_toArray, List.size_toArray, lv_len hL, lv_len h0.2]) (all_oneCell_toArray (lv_one L))
theorem keep_setRow (w : World) (b : Nat) (cs : Array Value) : Keep (· = b) w (w.setRow b cs) := ⟨rfl, rfl, rfl, by simp [World.setRow], fun k hk hn => setRow_other w b k cs hn⟩
theorem LfAt.setRow {b : Nat} {L0 L : Lf} (h0 : LfAt w b L0) (hL : L.Ok) : LfAt (w.setRow b (lv L).toArray) b L := ⟨setRow_heap w b _ _ _ _ h0.1, hL⟩
/-- A leaf's variable takes another one. -/
theorem store_leaf (hgd : o.guard = none) (x y : Operand) (ho : o.op = .store 91 x y) (b : Nat) (L0 L : Lf) (h0 : LfAt w b L0) (hL : L.Ok) (hx : a.eval x = .pointer (some ⟨b, 0, none⟩)) (hy : a.eval y = .agg (lv L).toArray)
    (h : ∀ w1, LfAt w1 b L → Keep (· = b) w w1 → w1.heap.size = w.heap.size → wpList Try.prog ops Q rs (a.put o.dst undef) w1) : wpList Try.prog ops Q (o :: rs) a w :=
  wpList_plain hgd fun K hK => by
    unfold Oper.wp execOp
    simp only [ho, hx, hy, Instr.storeAt, Instr.sureAddr, Sem.run_bind, Sem.run_pure, Result.andThen_ok, store_run h0 hL]
    exact hK _ _ (h _ (h0.setRow hL) (keep_setRow w b _) (by simp [World.setRow]))
theorem built_zero : Try.prog.built 91 [] = some (lv Lf.zero).toArray := by
  have h1 := Try.zero_leaf
  unfold Program.built
  cases hi : Try.prog.info? 91 with
  | none => rw [hi] at h1; cases h1
  | some it =>
    rw [hi] at h1
    simp at h1
    rw [Try.underlying91]
    simp only [h1.1]
    rfl
theorem build_zero (hgd : o.guard = none) (ho : o.op = .build 91 #[])
    (h : wpList Try.prog ops Q rs (a.put o.dst (.agg (lv Lf.zero).toArray)) w) : wpList Try.prog ops Q (o :: rs) a w :=
  wpList_plain hgd fun K hK => by
    unfold Oper.wp execOp
    simp only [ho, Array.map_empty, run_build w 91 #[] _ built_zero, Sem.run_bind, Sem.run_pure, Result.andThen_ok]
    exact hK _ _ h
end
theorem load_run {w : World} {b : Nat} {L : Lf} (h : LfAt w b L) : (loadVar 91 ⟨b, 0, none⟩).run Try.prog w = .ok (.agg (lv L).toArray) w :=
  run_loadVar_mid w b 0 _ (lv L) _ h.range Try.underlying91 rfl (by rw [lv_len h.2]; exact Try.size_leaf)
/-- A leaf and a bool are returned. -/
theorem ret_leaf {fn : Func} {R : Ending → World → Prop} {a : Act} {w : World} {b : Nat} {L : Lf} {q : Bool} (i j : Nat) (hf : fn.results = #[.cell i 91, .tmp j]) (hi : a.tmps.getD i undef = .pointer (some ⟨b, 0, none⟩)) (hj : a.tmps.getD j undef = .bool q) (h : LfAt w b L) (hd : a.defers = [])
    (hR : R (.returned (.tuple #[.agg (lv L).toArray, .bool q])) w) : bodyPost Try.prog fn R .ret a w := by
  refine bodyPost_ret (v := .tuple #[.agg (lv L).toArray, .bool q]) ?_ hd hR
  unfold results
  rw [hf]
  rw [Array.getD_eq_getD_getElem?] at hi hj
  simp [hi, hj, asAddr, load_run h]
end Go.Proofs.Ytilmicekpclmbaa
namespace Go.Proofs.Ytilmicekpclmbaa
set_option linter.unusedVariables false
set_option linter.unusedSimpArgs false
set_option maxRecDepth 100000
open Go.RowKit

theorem Try.places_leaf : (match Try.prog.underlying 91 with | some (.struct fs) => fs.toList.mapM (fun f => (Try.prog.info? f.type).map fun i => (f.offset, i.size)) | _ => none) = some [(0, 1), (1, 1), (2, 1), (3, 1), (4, 1), (5, 116)] := by kernel_rfl
theorem built_five (k f p n s : Int) : Try.prog.built 91 [(0, .int .i64 k), (1, .int .i64 f), (2, .int .i64 p), (3, .int .i64 n), (4, .int .i64 s)] = some (lv ⟨k, f, p, n, s, zeros 116⟩).toArray := by
  have h1 := Try.zero_leaf
  have h2 := Try.places_leaf
  unfold Program.built
  cases hi : Try.prog.info? 91 with
  | none => rw [hi] at h1; cases h1
  | some it =>
    rw [hi] at h1
    simp at h1
    cases hu : Try.prog.underlying 91 with
    | none => rw [hu] at h2; cases h2
    | some d =>
      rw [hu] at h2
      cases d <;> try (simp at h2; done)
      rename_i fs
      simp only at h2
      simp only [h1.1, h2]
      simp [Instr.fill, Value.cells, lv, Lf.zero, zeros]
theorem build_five {ops : Array Oper} {rs : List Oper} {o : Oper} {a : Act} {w : World} {Q : Exit → Act → World → Prop} (hgd : o.guard = none) (x0 x1 x2 x3 x4 : Operand) (ho : o.op = .build 91 #[(0, x0), (1, x1), (2, x2), (3, x3), (4, x4)]) (k f p n s : Int)
    (h0 : a.eval x0 = .int .i64 k) (h1 : a.eval x1 = .int .i64 f) (h2 : a.eval x2 = .int .i64 p) (h3 : a.eval x3 = .int .i64 n) (h4 : a.eval x4 = .int .i64 s)
    (h : wpList Try.prog ops Q rs (a.put o.dst (.agg (lv ⟨k, f, p, n, s, zeros 116⟩).toArray)) w) : wpList Try.prog ops Q (o :: rs) a w :=
  wpList_plain hgd fun K hK => by
    unfold Oper.wp execOp
    have e : (#[(0, x0), (1, x1), (2, x2), (3, x3), (4, x4)] : Array (Nat × Operand)).map (fun x => (x.1, a.eval x.2)) = #[(0, .int .i64 k), (1, .int .i64 f), (2, .int .i64 p), (3, .int .i64 n), (4, .int .i64 s)] := by simp [h0, h1, h2, h3, h4]
    simp only [ho, e, run_build w 91 #[(0, .int .i64 k), (1, .int .i64 f), (2, .int .i64 p), (3, .int .i64 n), (4, .int .i64 s)] _ (built_five k f p n s), Sem.run_bind, Sem.run_pure, Result.andThen_ok]
    exact hK _ _ h
/-- A load of a whole leaf, by its own name. -/
def loadLf (p : Value) : Sem Value := Instr.loadAt 91 p
theorem loadLf_eq (p : Value) : Instr.loadAt 91 p = loadLf p := rfl
theorem loadLf_run {w : World} {b : Nat} {L : Lf} (h : LfAt w b L) : (loadLf (.pointer (some ⟨b, 0, none⟩))).run Try.prog w = .ok (.agg (lv L).toArray) w :=
  run_loadAt_mid w b 0 _ (lv L) _ h.range Try.underlying91 rfl (by rw [lv_len h.2]; exact Try.size_leaf)
/-- Two leaves compared, by its own name. -/
def eqlLf (x y : Value) : Sem Value := binOp .eql 91 x y
theorem eqlLf_eq (x y : Value) : binOp .eql 91 x y = eqlLf x y := rfl
theorem eqlLf_run {L M : Lf} (hl : L.Ok) (hm : M.Ok) (w : World) : (eqlLf (.agg (lv L).toArray) (.agg (lv M).toArray)).run Try.prog w = .ok (.bool (decide (L = M))) w := run_eql_leaf hl hm w
def neqLf (x y : Value) : Sem Value := binOp .neq 91 x y
theorem neqLf_eq (x y : Value) : binOp .neq 91 x y = neqLf x y := rfl
theorem neqLf_run {L M : Lf} (hl : L.Ok) (hm : M.Ok) (w : World) : (neqLf (.agg (lv L).toArray) (.agg (lv M).toArray)).run Try.prog w = .ok (.bool (!decide (L = M))) w := run_neq_leaf hl hm w
/-- The zero leaf built, by its own name. -/
def zeroLf : Sem Value := Instr.build 91 #[]
theorem zeroLf_eq (f : Nat × Operand → Nat × Value) : Instr.build 91 (Array.map f #[]) = zeroLf := by unfold zeroLf; rw [Array.map_empty]
theorem zeroLf_eq' : Instr.build 91 #[] = zeroLf := rfl
theorem zeroLf_run (w : World) : zeroLf.run Try.prog w = .ok (.agg (lv Lf.zero).toArray) w := run_build w 91 #[] _ built_zero
theorem lf_guard (op : BinOp) (x y : Operand) (xs ys : Array Value) (w : World) : (eqGuard op 91 x y (.agg xs) (.agg ys)).run Try.prog w = .ok () w := run_eqGuard_agg w op _ x y xs ys Try.leaf_guard
end Go.Proofs.Ytilmicekpclmbaa

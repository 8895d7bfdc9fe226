/-
  A whole leaf in a walk: boxed, read out of its block, laid into a new variable, returned.
-/
import Derived.Test.YtoolmmjiemkpbaaLA
import Derived.Test.YtoolmmjiemkpbaaKeep
import Derived.OwnWalk
namespace Go.Proofs.Ytoolmmjiemkpbaa
set_option linter.unusedVariables false
set_option linter.unusedSimpArgs false
open Go.RowKit

/-- A leaf in a block of its own. -/
def LfAt (w : World) (b : Nat) (L : Lf) : Prop := Arr w b 82 (lv L) ∧ L.Ok
theorem LfAt.below {w w' : World} {b : Nat} {L : Lf} (h : LfAt w b L) (hb : Below w.heap.size w w') : LfAt w' b L := ⟨h.1.below hb, h.2⟩
theorem LfAt.same {w w' : World} {b : Nat} {L : Lf} (h : LfAt w b L) (e : w'.heap[b]? = w.heap[b]?) : LfAt w' b L := ⟨h.1.same e, h.2⟩
theorem LfAt.heap {w : World} {b : Nat} {L : Lf} (h : LfAt w b L) : w.heap[b]? = some (.cells (lv L).toArray 82 (0, 0)) := h.1
theorem LfAt.lt {w : World} {b : Nat} {L : Lf} (h : LfAt w b L) : b < w.heap.size := h.1.lt
theorem LfAt.new (w : World) {L : Lf} (h : L.Ok) : LfAt (w.alloc (.cells (lv L).toArray 82)) w.heap.size L := ⟨Arr.new w _ _, h⟩
theorem LfAt.alloc {w : World} {b : Nat} {L : Lf} (h : LfAt w b L) (o : Obj) : LfAt (w.alloc o) b L := h.below ((Below.refl _ _).alloc (Nat.le_refl _) _)
theorem LfAt.far {w : World} {b g k : Nat} {L : Lf} (h : LfAt w b L) (hne : b ≠ g) (v : Value) : LfAt (w.setCell ⟨g, k, none⟩ v) b L := ⟨h.1.far hne v, h.2⟩
theorem LfAt.grown {w w' : World} {b : Nat} {row : Option Nat} {L : Lf} (h : LfAt w b L) (hg : w.grownBy w' row) (hr : row ≠ some b) : LfAt w' b L := h.same (hg.block b h.lt (fun e => hr e.symm))
theorem LfAt.kind {w : World} {b : Nat} {L : Lf} (h : LfAt w b L) : w.cell? ⟨b, 0, none⟩ = some (.int .i64 L.kind) := h.1.cell 0
theorem LfAt.file {w : World} {b : Nat} {L : Lf} (h : LfAt w b L) : w.cell? ⟨b, 1, none⟩ = some (.int .i64 L.file) := h.1.cell 1
theorem LfAt.place {w : World} {b : Nat} {L : Lf} (h : LfAt w b L) : w.cell? ⟨b, 2, none⟩ = some (.int .i64 L.place) := h.1.cell 2
theorem LfAt.next {w : World} {b : Nat} {L : Lf} (h : LfAt w b L) : w.cell? ⟨b, 3, none⟩ = some (.int .i64 L.next) := h.1.cell 3
theorem LfAt.size {w : World} {b : Nat} {L : Lf} (h : LfAt w b L) : w.cell? ⟨b, 4, none⟩ = some (.int .i64 L.size) := h.1.cell 4
theorem LfAt.byte {w : World} {b : Nat} {L : Lf} (h : LfAt w b L) (k : Nat) (hk : k < 116) : w.cell? ⟨b, 5 + k, none⟩ = some (.int .u8 (L.load.getD k 0)) := (h.1.cell (5 + k)).trans (lv_load h.2 k hk)
theorem LfAt.frozen {w : World} {b : Nat} {L : Lf} (h : LfAt w b L) (k : Nat) : w.frozen? ⟨b, k, none⟩ = false := h.1.frozen k
theorem LfAt.range {w : World} {b : Nat} {L : Lf} (h : LfAt w b L) : w.rangeAt b 0 (lv L) := fun j v hv => by rw [h.1.cell, Nat.zero_add]; exact hv
/-- Its load, as a slice that reads. -/
theorem LfAt.reads {w : World} {b : Nat} {L : Lf} (h : LfAt w b L) : RdB w w.heap.size (some ⟨b, 5, none⟩) L.load := fun k hk =>
  ⟨b, 5, rfl, h.lt, h.byte k (by rw [h.2.l] at hk; exact hk), h.2.u k hk⟩
theorem lv_set_load {L : Lf} (k : Nat) (x : Int) : (lv L).set (5 + k) (.int .u8 x) = lv { L with load := L.load.set k x } := by
  rw [Nat.add_comm]
  unfold lv
  show _ :: _ :: _ :: _ :: _ :: (vals L.load).set k (.int .u8 x) = _
  rw [vals_set]
theorem Lf.Ok.put {L : Lf} (h : L.Ok) (k : Nat) (x : Int) (hx : U8 x) : Lf.Ok { L with load := L.load.set k x } :=
  ⟨h.k, h.f, h.p, h.n, h.s, by rw [List.length_set]; exact h.l, fun j hj => by
    rw [List.length_set] at hj
    show U8 ((L.load.set k x).getD j 0)
    rw [getD_set _ _ _ _ hj]
    split
    · exact hx
    · exact h.u j hj⟩
theorem LfAt.store {w : World} {b : Nat} {L : Lf} (h : LfAt w b L) (k : Nat) (x : Int) (hx : U8 x) : LfAt (w.setCell ⟨b, 5 + k, none⟩ (.int .u8 x)) b { L with load := L.load.set k x } :=
  ⟨by have := h.1.set (5 + k) (.int .u8 x); rw [lv_set_load] at this; exact this, h.2.put k x hx⟩

section
variable {ops : Array Oper} {rs : List Oper} {o : Oper} {a : Act} {w : World} {Q : Exit → Act → World → Prop}
theorem box_leaf (hgd : o.guard = none) (x : Operand) (ho : o.op = .box 82 x) (L : Lf) (hL : L.Ok) (hx : a.eval x = .agg (lv L).toArray)
    (h : ∀ w1, LfAt w1 w.heap.size L → Below w.heap.size w w1 → w1.heap.size = w.heap.size + 1 → wpList Try.prog ops Q rs (a.put o.dst (.pointer (some ⟨w.heap.size, 0, none⟩))) w1) : wpList Try.prog ops Q (o :: rs) a w :=
  wpList_plain hgd fun K hK => by
    unfold Oper.wp execOp
    simp only [ho, hx, Instr.box, newVar, newRow, newObj, Value.cells, Sem.run_bind, Sem.run_pure, Result.andThen_ok]
    exact hK _ _ (h _ (LfAt.new w hL) ((Below.refl _ _).alloc (Nat.le_refl _) _) (by simp))
theorem load_leaf (hgd : o.guard = none) (x : Operand) (ho : o.op = .load 82 x) (b : Nat) (L : Lf) (hL : LfAt w b L) (hx : a.eval x = .pointer (some ⟨b, 0, none⟩))
    (h : wpList Try.prog ops Q rs (a.put o.dst (.agg (lv L).toArray)) w) : wpList Try.prog ops Q (o :: rs) a w :=
  wpList_load_mid hgd _ x ho b 0 hx (lv L) _ hL.range Try.underlying82 rfl (by rw [lv_len hL.2]; exact Try.size_leaf) h
end
end Go.Proofs.Ytoolmmjiemkpbaa

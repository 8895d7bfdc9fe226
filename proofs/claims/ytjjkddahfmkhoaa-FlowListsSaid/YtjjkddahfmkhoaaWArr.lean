/-
  A local array in a block of its own.
-/
import Derived.Test.YtjjkddahfmkhoaaWOwn
namespace Go.Proofs.Ytjjkddahfmkhoaa
set_option linter.unusedVariables false
set_option linter.unusedSimpArgs false
open Go.RowKit

/-- Block h is an array of type t that holds vs. -/
def Arr (w : World) (h : Nat) (t : TypeId) (vs : List Value) : Prop := w.heap[h]? = some (.cells vs.toArray t (0, 0))
theorem Arr.cell {w : World} {h : Nat} {t : TypeId} {vs : List Value} (ha : Arr w h t vs) (k : Nat) : w.cell? ⟨h, k, none⟩ = vs[k]? := by
  rw [cell_of_row w h k _ _ _ ha]; simp
theorem Arr.frozen {w : World} {h : Nat} {t : TypeId} {vs : List Value} (ha : Arr w h t vs) (k : Nat) : w.frozen? ⟨h, k, none⟩ = false := frozen_of_row w h k _ _ ha
theorem Arr.set {w : World} {h : Nat} {t : TypeId} {vs : List Value} (ha : Arr w h t vs) (k : Nat) (v : Value) : Arr (w.setCell ⟨h, k, none⟩ v) h t (vs.set k v) := by
  unfold Arr
  rw [heap_setCell_same w h k _ _ v ha]
  simp
theorem Arr.same {w w' : World} {h : Nat} {t : TypeId} {vs : List Value} (ha : Arr w h t vs) (e : w'.heap[h]? = w.heap[h]?) : Arr w' h t vs := by unfold Arr; rw [e]; exact ha
theorem Arr.below {w w' : World} {h : Nat} {t : TypeId} {vs : List Value} (ha : Arr w h t vs) (b : Below w.heap.size w w') : Arr w' h t vs := by
  refine ha.same (b.block h ?_)
  rcases Nat.lt_or_ge h w.heap.size with e | e
  · exact e
  · unfold Arr at ha; rw [Array.getElem?_eq_none (by exact e)] at ha; cases ha
theorem Arr.far {w : World} {h g k : Nat} {t : TypeId} {vs : List Value} (ha : Arr w h t vs) (hne : h ≠ g) (v : Value) : Arr (w.setCell ⟨g, k, none⟩ v) h t vs :=
  ha.same (Below.heap_setCell _ _ _ _ hne)
theorem Arr.lt {w : World} {h : Nat} {t : TypeId} {vs : List Value} (ha : Arr w h t vs) : h < w.heap.size := by
  rcases Nat.lt_or_ge h w.heap.size with e | e
  · exact e
  · unfold Arr at ha; rw [Array.getElem?_eq_none (by exact e)] at ha; cases ha
theorem Arr.new (w : World) (t : TypeId) (vs : List Value) : Arr (w.alloc (.cells vs.toArray t)) w.heap.size t vs := by unfold Arr; exact heap_alloc_new w _
def bvals (ts : List Bool) : List Value := ts.map Value.bool
theorem bvals_at (ts : List Bool) (k : Nat) (h : k < ts.length) : (bvals ts)[k]? = some (.bool (ts.getD k false)) := by
  unfold bvals; rw [List.getElem?_map, List.getElem?_eq_getElem h, List.getD_eq_getElem?_getD, List.getElem?_eq_getElem h]; rfl
theorem bvals_set (ts : List Bool) (k : Nat) (x : Bool) : (bvals ts).set k (.bool x) = bvals (ts.set k x) := by unfold bvals; rw [List.map_set]
end Go.Proofs.Ytjjkddahfmkhoaa

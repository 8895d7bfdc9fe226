/-
  Small facts on memory: a struct of two fields in a block of its own, through calls that write nothing old, and through stores.
-/
import Derived.Test.YtjjkddahfmkhoaaProg
import Derived.WalkKit
namespace Go.Proofs.Ytjjkddahfmkhoaa
set_option linter.unusedVariables false
set_option linter.unusedSimpArgs false
open Go.RowKit

theorem bstep {w a b : World} (h : Below w.heap.size w a) (k : Below a.heap.size a b) : Below w.heap.size w b := h.trans (k.mono h.size)

/-- A struct of two fields in a block that may be written. -/
def Cell2 (w : World) (n : Nat) (v0 v1 : Value) : Prop :=
  n < w.heap.size ∧ w.cell? ⟨n, 0, none⟩ = some v0 ∧ w.cell? ⟨n, 1, none⟩ = some v1 ∧ w.frozen? ⟨n, 0, none⟩ = false ∧ w.frozen? ⟨n, 1, none⟩ = false
theorem Cell2.below {w w' : World} {n : Nat} {v0 v1 : Value} (h : Cell2 w n v0 v1) (hb : Below w.heap.size w w') : Cell2 w' n v0 v1 := by
  obtain ⟨h1, h2, h3, h4, h5⟩ := h
  exact ⟨Nat.lt_of_lt_of_le h1 hb.size, by rw [hb.cell (p := ⟨n, 0, none⟩) h1]; exact h2, by rw [hb.cell (p := ⟨n, 1, none⟩) h1]; exact h3, by rw [hb.frozen (p := ⟨n, 0, none⟩) h1]; exact h4, by rw [hb.frozen (p := ⟨n, 1, none⟩) h1]; exact h5⟩
theorem Cell2.drew {w : World} {n : Nat} {v0 v1 : Value} (h : Cell2 w n v0 v1) : Cell2 w.drew n v0 v1 := h
theorem Cell2.alloc {w : World} {n : Nat} {v0 v1 : Value} (h : Cell2 w n v0 v1) (o : Obj) : Cell2 (w.alloc o) n v0 v1 := h.below ((Below.refl _ _).alloc (Nat.le_refl _) _)
theorem Cell2.new (w : World) (v0 v1 : Value) (t : TypeId) : Cell2 (w.alloc (.cells #[v0, v1] t)) w.heap.size v0 v1 :=
  ⟨by simp, by simp [go_sem], by simp [go_sem], by simp, by simp⟩
theorem Cell2.set {w : World} {n : Nat} {v0 v1 : Value} (h : Cell2 w n v0 v1) (u0 u1 : Value) : Cell2 ((w.setCell ⟨n, 0, none⟩ u0).setCell ⟨n, 1, none⟩ u1) n u0 u1 := by
  obtain ⟨h1, h2, h3, h4, h5⟩ := h
  have e0 : (⟨n, 0, none⟩ : Addr) ≠ ⟨n, 1, none⟩ := by intro h; injection h with _ h; exact absurd h (by decide)
  have c1 : (w.setCell ⟨n, 0, none⟩ u0).cell? ⟨n, 1, none⟩ = some v1 := by rw [World.cell?_setCell_other _ _ _ _ e0]; exact h3
  refine ⟨by simpa [World.setCell] using h1, ?_, World.cell?_setCell_same _ _ _ c1, by simpa using h4, by simpa using h5⟩
  rw [World.cell?_setCell_other _ _ _ _ (Ne.symm e0)]
  exact World.cell?_setCell_same _ _ _ h2
theorem Cell2.far {w : World} {n m : Nat} {v0 v1 : Value} (h : Cell2 w n v0 v1) (hne : m ≠ n) (u0 u1 : Value) : Cell2 ((w.setCell ⟨m, 0, none⟩ u0).setCell ⟨m, 1, none⟩ u1) n v0 v1 := by
  obtain ⟨h1, h2, h3, h4, h5⟩ := h
  have e (i j : Nat) : (⟨m, i, none⟩ : Addr) ≠ ⟨n, j, none⟩ := by intro h; injection h with h; exact hne h
  refine ⟨by simpa [World.setCell] using h1, ?_, ?_, by simpa using h4, by simpa using h5⟩
  · rw [World.cell?_setCell_other _ _ _ _ (e 1 0), World.cell?_setCell_other _ _ _ _ (e 0 0)]; exact h2
  · rw [World.cell?_setCell_other _ _ _ _ (e 1 1), World.cell?_setCell_other _ _ _ _ (e 0 1)]; exact h3
theorem keepS {W W1 w' : World} {n : Nat} {v0 v1 : Value} (hb : Below W1.heap.size W1 w') (h : Below W.heap.size W W1 ∧ W1.cell? ⟨n, 0, none⟩ = some v0 ∧ W1.cell? ⟨n, 1, none⟩ = some v1) (hn : n < W.heap.size) : Below W.heap.size W w' ∧ w'.cell? ⟨n, 0, none⟩ = some v0 ∧ w'.cell? ⟨n, 1, none⟩ = some v1 := by
  obtain ⟨h1, h2, h3⟩ := h
  have := h1.size
  exact ⟨h1.trans (hb.mono this), by rw [hb.cell (p := ⟨n, 0, none⟩) (by show n < _; omega)]; exact h2, by rw [hb.cell (p := ⟨n, 1, none⟩) (by show n < _; omega)]; exact h3⟩
/-- A variable in a block of its own. -/
def Cell1 (w : World) (n : Nat) (v : Value) : Prop := n < w.heap.size ∧ w.cell? ⟨n, 0, none⟩ = some v
theorem Cell1.new (w : World) (v : Value) (t : TypeId) : Cell1 (w.alloc (.cells #[v] t)) w.heap.size v := ⟨by simp, by simp [go_sem]⟩
theorem Cell1.below {w w' : World} {n : Nat} {v : Value} (h : Cell1 w n v) (hb : Below w.heap.size w w') : Cell1 w' n v :=
  ⟨Nat.lt_of_lt_of_le h.1 hb.size, by rw [hb.cell (p := ⟨n, 0, none⟩) h.1]; exact h.2⟩
theorem Cell1.alloc {w : World} {n : Nat} {v : Value} (h : Cell1 w n v) (o : Obj) : Cell1 (w.alloc o) n v := h.below ((Below.refl _ _).alloc (Nat.le_refl _) _)
theorem Cell1.far {w : World} {n g k : Nat} {v : Value} (h : Cell1 w n v) (hne : g ≠ n) (u : Value) : Cell1 (w.setCell ⟨g, k, none⟩ u) n v :=
  ⟨by simpa [World.setCell] using h.1, by rw [World.cell?_setCell_other _ _ _ _ (fun e => hne (by injection e))]; exact h.2⟩
theorem keepT {W W1 w' : World} {n m : Nat} {v0 v1 : Value} (hb : Below W1.heap.size W1 w') (h : Below W.heap.size W W1 ∧ W1.cell? ⟨n, 0, none⟩ = some v0 ∧ W1.cell? ⟨m, 0, none⟩ = some v1) (hn : n < W.heap.size) (hm : m < W.heap.size) : Below W.heap.size W w' ∧ w'.cell? ⟨n, 0, none⟩ = some v0 ∧ w'.cell? ⟨m, 0, none⟩ = some v1 := by
  obtain ⟨h1, h2, h3⟩ := h
  have := h1.size
  exact ⟨h1.trans (hb.mono this), by rw [hb.cell (p := ⟨n, 0, none⟩) (by show n < _; omega)]; exact h2, by rw [hb.cell (p := ⟨m, 0, none⟩) (by show m < _; omega)]; exact h3⟩
end Go.Proofs.Ytjjkddahfmkhoaa

/-
  A row of cells that a call made for itself: through calls that write nothing old, as a slice that reads, and through stores.
-/
import Derived.Test.YtjjkddahfmkhoaaCrcW
import Derived.Test.YtjjkddahfmkhoaaWCell
import Derived.Deep.AppendLies
namespace Go.Proofs.Ytjjkddahfmkhoaa
set_option linter.unusedVariables false
set_option linter.unusedSimpArgs false
open Go.RowKit

theorem grown_below {w w' : World} (h : Below w.heap.size w w') (row : Option Nat) : w.grownBy w' row := ⟨h.os, h.tape, h.output, h.size, fun k hk _ => h.block k hk⟩
/-- Bytes as values. -/
def vals (xs : List Int) : List Value := xs.map (Value.int .u8)
theorem vals_length (xs : List Int) : (vals xs).length = xs.length := by unfold vals; rw [List.length_map]
theorem vals_at (xs : List Int) (k : Nat) (h : k < xs.length) : (vals xs)[k]? = some (.int .u8 (xs.getD k 0)) := by
  unfold vals; rw [List.getElem?_map, List.getElem?_eq_getElem h, List.getD_eq_getElem?_getD, List.getElem?_eq_getElem h]; rfl
/-- Bytes in a block of the call's own, from its first cell on. -/
def Own (w : World) (base g cap : Nat) (xs : List Int) : Prop :=
  w.ownsRow base 5 1 (.slice (some ⟨g, 0, none⟩) xs.length cap) xs.length (vals xs) ∧ ∀ k, k < xs.length → U8 (xs.getD k 0)
theorem Own.below {w w' : World} {base g cap : Nat} {xs : List Int} (h : Own w base g cap xs) (hb : Below w.heap.size w w') : Own w' base g cap xs := by
  refine ⟨h.1.kept (row := none) (grown_below hb _) ?_, h.2⟩
  exact Or.inr (fun h => by cases h)
theorem Own.drew {w : World} {base g cap : Nat} {xs : List Int} (h : Own w base g cap xs) : Own w.drew base g cap xs := ⟨h.1.drew, h.2⟩
theorem Own.alloc {w : World} {base g cap : Nat} {xs : List Int} (h : Own w base g cap xs) (o : Obj) : Own (w.alloc o) base g cap xs := ⟨h.1.alloc o, h.2⟩
theorem Own.lt {w : World} {base g cap : Nat} {xs : List Int} (h : Own w base g cap xs) : base ≤ g ∧ g < w.heap.size := h.1.lt g rfl
theorem Own.cell {w : World} {base g cap : Nat} {xs : List Int} (h : Own w base g cap xs) {k : Nat} (hk : k < xs.length) : w.cell? ⟨g, k, none⟩ = some (.int .u8 (xs.getD k 0)) := by
  have := h.1.cells (g := g) rfl k _ (vals_at xs k hk)
  have e0 : (⟨g, 0, none⟩ : Addr).add k = ⟨g, 0 + k, none⟩ := by
    unfold Addr.add; by_cases h0 : k = 0
    · subst h0; rfl
    · simp [h0]
  rw [e0, Nat.zero_add] at this
  exact this
theorem Own.reads {w : World} {base g cap : Nat} {xs : List Int} (h : Own w base g cap xs) : RdB w w.heap.size (some ⟨g, 0, none⟩) xs := fun k hk =>
  ⟨g, 0, rfl, h.lt.2, by rw [Nat.zero_add]; exact h.cell hk, h.2 k hk⟩
theorem Own.frozen {w : World} {base g cap : Nat} {xs : List Int} (h : Own w base g cap xs) (k : Nat) : w.frozen? ⟨g, k, none⟩ = false := h.1.frozenAt k
theorem vals_set (xs : List Int) (k : Nat) (x : Int) : (vals xs).set k (.int .u8 x) = vals (xs.set k x) := by unfold vals; rw [List.map_set]
theorem getD_set (xs : List Int) (k j : Nat) (x : Int) (hj : j < xs.length) : (xs.set k x).getD j 0 = if k = j then x else xs.getD j 0 := by
  rw [List.getD_eq_getElem?_getD, List.getElem?_set, List.getD_eq_getElem?_getD]
  by_cases h : k = j
  · subst h; simp [hj]
  · simp [h]
theorem Own.set {w : World} {base g cap : Nat} {xs : List Int} (h : Own w base g cap xs) (k : Nat) (x : Int) (hx : U8 x) : Own (w.setCell ⟨g, k, none⟩ (.int .u8 x)) base g cap (xs.set k x) := by
  refine ⟨?_, fun j hj => ?_⟩
  · have := (h.1.stored k (.int .u8 x)).1
    rw [vals_set] at this
    rw [List.length_set]
    exact this
  · rw [List.length_set] at hj
    rw [getD_set xs k j x hj]
    split
    · exact hx
    · exact h.2 j hj
theorem Own.cap {w : World} {base g cap : Nat} {xs : List Int} (h : Own w base g cap xs) : xs.length ≤ cap ∧ cap ≤ maxLen := by
  rcases h.1.2 with ⟨e, _⟩ | ⟨g', c', cur, e, _, _, h1, h2, _⟩
  · cases e
  · injection e with _ _ e
    subst e
    exact ⟨h1, h2⟩
/-- The empty slice that a call makes. -/
theorem Own.empty (w : World) (base : Nat) (hb : base ≤ w.heap.size) : Own (w.alloc (.cells #[] 5)) base w.heap.size 0 [] :=
  ⟨World.ownsRow_made w #[] 0 hb (by decide) rfl, fun k hk => absurd hk (by simp)⟩
/-- Memory behind an append onto one's own. -/
theorem below_grown {w0 w w' : World} {g : Nat} (hb : Below w0.heap.size w0 w) (hg : w.grownBy w' (some g)) (h : w0.heap.size ≤ g) : Below w0.heap.size w0 w' :=
  Below.grown hb hg hb.size (fun k hk => by injection hk with hk; omega)
/-- Another row of one's own stays, when one grows. -/
theorem Own.grown {w w' : World} {base g cap h : Nat} {xs : List Int} (ho : Own w base g cap xs) (hg : w.grownBy w' (some h)) (hne : g ≠ h) : Own w' base g cap xs :=
  ⟨ho.1.kept hg (Or.inr (fun e => hne (by injection e))), ho.2⟩
/-- Another row of one's own stays, when a cell elsewhere is written. -/
theorem Own.far {w : World} {base g cap h k : Nat} {xs : List Int} (ho : Own w base g cap xs) (hne : g ≠ h) (v : Value) : Own (w.setCell ⟨h, k, none⟩ v) base g cap xs :=
  ⟨ownsRow_setCell_other ho.1 (fun e => hne (by injection e)) v, ho.2⟩
/-- Two cells of one block, through a call that writes nothing old. -/
theorem keepO {W W1 w' : World} {n i j : Nat} {v0 v1 : Value} (hb : Below W1.heap.size W1 w') (h : Below W.heap.size W W1 ∧ W1.cell? ⟨n, i, none⟩ = some v0 ∧ W1.cell? ⟨n, j, none⟩ = some v1) (hn : n < W.heap.size) : Below W.heap.size W w' ∧ w'.cell? ⟨n, i, none⟩ = some v0 ∧ w'.cell? ⟨n, j, none⟩ = some v1 := by
  obtain ⟨h1, h2, h3⟩ := h
  have := h1.size
  exact ⟨h1.trans (hb.mono this), by rw [hb.cell (p := ⟨n, i, none⟩) (by show n < _; omega)]; exact h2, by rw [hb.cell (p := ⟨n, j, none⟩) (by show n < _; omega)]; exact h3⟩
theorem take_set_succ (us : List Int) (k : Nat) (v : Int) (h : k < us.length) : (us.set k v).take (k + 1) = us.take k ++ [v] := by
  rw [List.take_succ_eq_append_getElem (by rw [List.length_set]; exact h), List.take_set_of_le (Nat.le_refl _), List.getElem_set_self]
/-- Bytes written out, in a new block. -/
theorem RdB.lit (w : World) (cs : Array Value) (t : TypeId) (m : Nat × Nat) (xs : List Int) (h : cs.toList = vals xs) (hu : ∀ k, k < xs.length → U8 (xs.getD k 0)) : RdB (w.alloc (.cells cs t m)) (w.heap.size + 1) (some ⟨w.heap.size, 0, none⟩) xs := fun k hk => by
  refine ⟨w.heap.size, 0, rfl, by omega, ?_, hu k hk⟩
  rw [Nat.zero_add]
  have e : (w.alloc (.cells cs t m)).cell? ⟨w.heap.size, k, none⟩ = cs[k]? := cell_of_row _ _ _ _ _ _ (heap_alloc_new w _)
  rw [e, ← Array.getElem?_toList, h, vals_at xs k hk]
end Go.Proofs.Ytjjkddahfmkhoaa

/-
  The document's own disk: Read.
  The document's own disk: what waits lands.
  The document's own disk: Flush and Boot.
-/
import Derived.Test.YtilmicekpclmbaaZe
import Derived.LoopN
import Derived.Deep.RegionHeldLaw
import Derived.Deep.RegionHeld3
import Derived.Deep.AppendLies
import Derived.BigRegion
namespace Go.Proofs.Ytilmicekpclmbaa
set_option linter.unusedVariables false
set_option linter.unusedSimpArgs false
open Go.RowKit

theorem lastFor_none (i : Nat) (l : List (Nat × List Int)) : (∀ j, j < l.length → (l.getD j (0, [])).1 ≠ i) → lastFor l i = none := by
  refine snoc_ind (P := fun l => (∀ j, j < l.length → (l.getD j (0, [])).1 ≠ i) → lastFor l i = none) (fun _ => rfl) ?_ l
  intro l p ih h
  rw [lastFor_snoc]
  have h1 := h l.length (by simp)
  rw [getD_snoc _ _ _ _ (by simp), if_neg (by omega)] at h1
  rw [if_neg h1]
  refine ih (fun j hj => ?_)
  have h2 := h j (by simp; omega)
  rw [getD_snoc _ _ _ _ (by simp; omega), if_pos hj] at h2
  exact h2
theorem lastFor_at (i : Nat) (l : List (Nat × List Int)) : ∀ k, k < l.length → (l.getD k (0, [])).1 = i → (∀ j, k < j → j < l.length → (l.getD j (0, [])).1 ≠ i) → lastFor l i = some (l.getD k (0, [])).2 := by
  refine snoc_ind (P := fun l => ∀ k, k < l.length → (l.getD k (0, [])).1 = i → (∀ j, k < j → j < l.length → (l.getD j (0, [])).1 ≠ i) → lastFor l i = some (l.getD k (0, [])).2) (fun k hk => by simp at hk) ?_ l
  intro l p ih k hk h1 h2
  rw [lastFor_snoc]
  by_cases hkl : k < l.length
  · have h3 := h2 l.length (by omega) (by simp)
    rw [getD_snoc _ _ _ _ (by simp), if_neg (by omega)] at h3
    rw [if_neg h3]
    rw [getD_snoc _ _ _ _ hk, if_pos hkl] at h1 ⊢
    refine ih k hkl h1 (fun j hj hjl => ?_)
    have h4 := h2 j hj (by simp; omega)
    rw [getD_snoc _ _ _ _ (by simp; omega), if_pos hjl] at h4
    exact h4
  · rw [getD_snoc _ _ _ _ hk, if_neg hkl] at h1 ⊢
    rw [if_pos h1]
theorem getD_map1 (l : List (Nat × List Int)) (k : Nat) (h : k < l.length) : (l.map (·.1)).getD k 0 = (l.getD k (0, [])).1 := by
  rw [List.getD_eq_getElem?_getD, List.getElem?_map, List.getElem?_eq_getElem h, List.getD_eq_getElem?_getD, List.getElem?_eq_getElem h]; rfl
theorem getD_at {α : Type} (l : List α) (k : Nat) (d : α) (h : k < l.length) : l[k]? = some (l.getD k d) := by
  rw [List.getElem?_eq_getElem h, List.getD_eq_getElem?_getD, List.getElem?_eq_getElem h]; rfl
/-- What Read leaves. -/
def RReadL (o : Option (List Int)) (w : World) (e : Ending) (w' : World) : Prop :=
  match o with
  | some xs => ∃ g c, e = .returned (.tuple #[.slice (some ⟨g, 0, none⟩) 128 c, .bool true]) ∧ Own w' w.heap.size g c xs ∧ Below w.heap.size w w'
  | none => e = .returned (.tuple #[.slice none 0 0, .bool false]) ∧ Below w.heap.size w w'

end Go.Proofs.Ytilmicekpclmbaa
namespace Go.Proofs.Ytilmicekpclmbaa
set_option linter.unusedVariables false
set_option linter.unusedSimpArgs false
open Go.RowKit

theorem BlkAt.keepG {w w' : World} {F F' G : Nat → Prop} {v : Value} {xs : List Int} (h : BlkAt w F v xs) (hk : Keep G w w') (hG : ∀ g cur, w.heap[g]? = some (.cells cur 5 (0, 0)) → ¬ G g) (hF : ∀ g, F g → F' g) : BlkAt w' F' v xs := by
  obtain ⟨g, c, h1, h2, h3, h4⟩ := h
  obtain ⟨c1, e1⟩ := h3.heap
  exact ⟨g, c, h1, hF g h2, hk.own h3 (hG g c1 e1), h4⟩
theorem RowA.heap {w : World} {e : TypeId} {c g : Nat} {xs : List Value} (h : RowA w e (some ⟨g, 0, none⟩) c xs) : ∃ cur, w.heap[g]? = some (.cells cur e (0, 0)) := by
  rcases h.parts with ⟨h, _⟩ | ⟨g', cur, h0, h1, _⟩
  · cases h
  · injection h0 with h0
    injection h0 with h0
    subst h0
    exact ⟨cur, h1⟩
theorem kinds_ne {w : World} {g : Nat} {c c' : Array Value} {t t' : TypeId} (h : w.heap[g]? = some (.cells c t (0, 0))) (h' : w.heap[g]? = some (.cells c' t' (0, 0))) (hne : t ≠ t') : False := by
  rw [h] at h'
  injection h' with h'
  injection h' with _ h'
  exact hne h'
theorem cell_set_ne (w : World) {b b' : Nat} (o o' : Nat) (v : Value) (h : b' ≠ b) : (w.setCell ⟨b, o, none⟩ v).cell? ⟨b', o', none⟩ = w.cell? ⟨b', o', none⟩ :=
  World.cell?_of_block (w := w) (Below.heap_setCell _ _ _ _ h)
end Go.Proofs.Ytilmicekpclmbaa
namespace Go.Proofs.Ytilmicekpclmbaa
set_option linter.unusedVariables false
set_option linter.unusedSimpArgs false
open Go.RowKit

theorem take_next {α : Type} (l : List α) (k : Nat) (d : α) (h : k < l.length) : l.take (k + 1) = l.take k ++ [l.getD k d] := by
  rw [List.take_succ_eq_append_getElem h, List.getD_eq_getElem?_getD, List.getElem?_eq_getElem h]; rfl

end Go.Proofs.Ytilmicekpclmbaa

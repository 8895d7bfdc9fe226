/-
  What the document's GetCatalog answers, as data; its numbers out of bytes.
-/
import Derived.Test.YtoolmmjiemkpbaaCS
import Derived.Test.YtoolmmjiemkpbaaLRb
import Derived.Handy
namespace Go.Proofs.Ytoolmmjiemkpbaa
set_option linter.unusedVariables false
set_option linter.unusedSimpArgs false
set_option maxRecDepth 100000
open Go.RowKit

/-- What is asked of a leaf ahead of what its bytes say. -/
structure Lf.Pre (L : Lf) : Prop where
  r : L.Right
  k : L.kind = 2
  f : L.file = 0
  p : L.place = 0
  n : L.next = 0
  s : 17 ≤ L.size
  m : (L.size - 17) % 7 = 0
open Classical in
noncomputable def Lf.badL (L : Lf) : Bool := !decide L.Pre
theorem Lf.badL_yes {L : Lf} : L.badL = true ↔ ¬ L.Pre := by unfold Lf.badL; simp
theorem Lf.badL_no {L : Lf} : L.badL = false ↔ L.Pre := by unfold Lf.badL; simp
noncomputable def gotC (L : Lf) : Ct := (getCt L).getD Ct.zero
noncomputable def gotK (L : Lf) : Bool := (getCt L).isSome
theorem gotC_none {L : Lf} (h : ¬ L.IsCt) : gotC L = Ct.zero ∧ gotK L = false := by
  unfold gotC gotK getCt
  rw [if_neg h]
  exact ⟨rfl, rfl⟩
theorem gotC_some {L : Lf} (h : L.IsCt) : gotC L = unCt L ∧ gotK L = true := by
  unfold gotC gotK getCt
  rw [if_pos h]
  exact ⟨rfl, rfl⟩
theorem RdB.skip {w : World} {B b o : Nat} {xs : List Int} (h : RdB w B (some ⟨b, o, none⟩) xs) (m : Nat) : RdB w B (some ⟨b, o + m, none⟩) (xs.drop m) := fun k hk => by
  rw [List.length_drop] at hk
  obtain ⟨b', o', e, h1, h2, h3⟩ := h (m + k) (by omega)
  injection e with e; injection e with e1 e2; subst e1 e2
  have ed : (xs.drop m).getD k 0 = xs.getD (m + k) 0 := by rw [List.getD_eq_getElem?_getD, List.getElem?_drop, List.getD_eq_getElem?_getD]
  rw [ed]
  exact ⟨b, o + m, rfl, h1, by rw [Nat.add_assoc]; exact h2, h3⟩
theorem numL_two {ys : List Int} (k : Nat) (hk : k + 1 < ys.length) : numL ((ys.drop k).take 2) = num2 ys k := by
  have e : (ys.drop k).take 2 = [ys.getD k 0, ys.getD (k + 1) 0] := by
    rw [List.drop_eq_getElem_cons (by omega), List.drop_eq_getElem_cons (by omega), List.getD_eq_getElem?_getD, List.getD_eq_getElem?_getD, List.getElem?_eq_getElem (by omega), List.getElem?_eq_getElem (by omega)]
    rfl
  rw [e]
  show ((0 : Int) * 256 + ys.getD (k + 1) 0) * 256 + ys.getD k 0 = ys.getD k 0 + 256 * ys.getD (k + 1) 0
  omega
theorem numL_four {ys : List Int} (k : Nat) (hk : k + 3 < ys.length) : numL ((ys.drop k).take 4) = num4 ys k := by
  have e : (ys.drop k).take 4 = [ys.getD k 0, ys.getD (k + 1) 0, ys.getD (k + 2) 0, ys.getD (k + 3) 0] := by
    rw [List.drop_eq_getElem_cons (by omega), List.drop_eq_getElem_cons (by omega), List.drop_eq_getElem_cons (by omega), List.drop_eq_getElem_cons (by omega), List.getD_eq_getElem?_getD, List.getD_eq_getElem?_getD, List.getD_eq_getElem?_getD, List.getD_eq_getElem?_getD, List.getElem?_eq_getElem (by omega), List.getElem?_eq_getElem (by omega), List.getElem?_eq_getElem (by omega), List.getElem?_eq_getElem (by omega)]
    rfl
  rw [e]
  show ((((0 : Int) * 256 + ys.getD (k + 3) 0) * 256 + ys.getD (k + 2) 0) * 256 + ys.getD (k + 1) 0) * 256 + ys.getD k 0 = ys.getD k 0 + 256 * ys.getD (k + 1) 0 + 65536 * ys.getD (k + 2) 0 + 16777216 * ys.getD (k + 3) 0
  omega
/-- What Get answers: the catalog, its files in a row of the call's own, and whether there is one. -/
def GetC (w : World) (L : Lf) (e : Ending) (w' : World) : Prop :=
  ∃ A n cap, e = .returned (.tuple #[.agg (ctv (gotC L) A n cap).toArray, .bool (gotK L)]) ∧ OwnF w' w.heap.size A n cap (gotC L).files ∧ Below w.heap.size w w'
end Go.Proofs.Ytoolmmjiemkpbaa

/-
  The document's own RightCatalog (sheafref5): whether a catalog is right.
-/
import Derived.Test.YtoolmmjiemkpbaaCA
import Derived.Deep.DeepCutAuto
import Derived.Deep.QuietTactic
import Derived.BigQuiet
import Derived.WalkSmall
import Derived.IntWalk
namespace Go.Proofs.Ytoolmmjiemkpbaa
set_option linter.unusedVariables false
set_option linter.unusedSimpArgs false
open Go.RowKit

open Classical in
/-- Is it right? -/
noncomputable def Ct.rt (c : Ct) : Bool := decide c.Right
theorem Ct.rt_iff {c : Ct} : c.rt = true ↔ c.Right := by unfold Ct.rt; simp
theorem Ct.rt_no {c : Ct} : c.rt = false ↔ ¬ c.Right := by unfold Ct.rt; simp
/-- What is asked of it ahead of its files. -/
structure Ct.Front (c : Ct) : Prop where
  g : 0 ≤ c.gen ∧ c.gen ≤ 1000
  s : 0 ≤ c.step ∧ c.step ≤ 20
  t : 0 ≤ c.status ∧ c.status ≤ 7
  e : c.ended = false → c.status = 0
  m : c.files.length ≤ 14
  k : c.card = Cd.zero ∨ c.card.Right
open Classical in
noncomputable def Ct.bad (c : Ct) : Bool := !decide c.Front
theorem Ct.bad_yes {c : Ct} : c.bad = true ↔ ¬ c.Front := by unfold Ct.bad; simp
theorem Ct.bad_no {c : Ct} : c.bad = false ↔ c.Front := by unfold Ct.bad; simp
/-- What is asked of a file. -/
structure fileOk (l : List Fl) (i : Nat) : Prop where
  f : (flAt l i).Right
  r : 0 < i → (flAt l (i - 1)).name < (flAt l i).name
open Classical in
noncomputable def fileBad (l : List Fl) (i : Nat) : Bool := !decide (fileOk l i)
theorem fileBad_yes {l : List Fl} {i : Nat} : fileBad l i = true ↔ ¬ fileOk l i := by unfold fileBad; simp
theorem fileBad_no {l : List Fl} {i : Nat} : fileBad l i = false ↔ fileOk l i := by unfold fileBad; simp
theorem right_of_front {c : Ct} (h : c.Front) (hf : ∀ i, i < c.files.length → fileOk c.files i) : c.Right :=
  ⟨h.g, h.s, h.t, h.e, h.k, h.m, fun i hi => (hf i hi).f, fun i hi => (hf (i + 1) hi).r (by omega)⟩
theorem file_of_right {c : Ct} (h : c.Right) (i : Nat) (hi : i < c.files.length) : fileOk c.files i :=
  ⟨h.f i hi, fun h0 => by have := h.r (i - 1) (by omega); rw [Nat.sub_add_cancel (by omega)] at this; exact this⟩
attribute [local go_sem ↓] neqCd_eq
end Go.Proofs.Ytoolmmjiemkpbaa

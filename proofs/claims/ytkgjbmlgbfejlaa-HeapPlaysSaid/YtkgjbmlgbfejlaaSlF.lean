/-
  A slice of structs of one-cell fields, as an argument's reading has it.
-/
import Derived.Test.YtkgjbmlgbfejlaaUWf
import Derived.Deep.Fields
import Derived.Deep.Slices
import Derived.OpenShut
namespace Go.Proofs.Ytkgjbmlgbfejlaa
set_option linter.unusedVariables false
set_option linter.unusedSimpArgs false
open Go.RowKit Go.ChangeShapes Go.WideShapes Go.Deep

section
variable {H : Type} {enc : TypeId × Value → H} {P : Program} {w : World} {base : Nat} {spare : Nat → Bool} {held : Bool}
/-- A slice of structs whose fields are one cell each. -/
theorem open_slice_fields {t e : TypeId} {fs : Array Field} {fuel : Nat} {A : Option Addr} {len cap : Nat} {x : DataW H × List MemPlace} (ht : P.underlying t = some (.slice e)) (hs : P.underlying e = some (.struct fs))
    (hone : ∀ (i : Nat) (f : Field), fs[i]? = some f → f.offset = i ∧ P.cellsOf f.type = 1) (hC : P.cellsOf e = fs.size) (hpos : 0 < fs.size) (h : DataW.trod enc P w base spare held fuel t [.slice A len cap] = some x) :
    len ≤ cap ∧ cap ≤ maxLen ∧ (A = none → len = 0 ∧ cap = 0) ∧ ∀ k, k < len → ∃ b o n, A = some ⟨b, o, none⟩ ∧ ∀ (i : Nat) (f : Field), fs[i]? = some f → ∃ v y, w.cell? ⟨b, o + k * fs.size + i, none⟩ = some v ∧ DataW.trod enc P w base spare held n f.type [v] = some y := by
  rcases open_slice ht h with ⟨h0, _⟩ | ⟨a, len', cap', m, n, D, Pl, h0, hb, hl, hm, hmm, rfl, hx⟩
  · injection h0 with h0 _
    injection h0 with h0 h1 h2
    subst h0 h1 h2
    exact ⟨Nat.le_refl _, Nat.zero_le _, fun _ => ⟨rfl, rfl⟩, fun k hk => absurd hk (Nat.not_lt_zero _)⟩
  · injection h0 with h0 _
    injection h0 with h0 h1 h2
    subst h0 h1 h2
    refine ⟨hl, hm, fun e => (by cases e), fun k hk => ?_⟩
    have hkm : k < m := by
      rw [hmm]
      split <;> omega
    obtain ⟨cs', h1, h2⟩ := hx k hkm
    obtain ⟨_, hlen, hcell⟩ := World.cells?_some h1
    rw [hC] at hlen hcell
    obtain ⟨xs, n', _, _, _, hxl, hf⟩ := DataW.trod_struct hs h2
    obtain ⟨b, o, spot⟩ := a
    have hspot : spot = none := by
      obtain ⟨cs0, g1, g2⟩ := hx 0 (by omega)
      obtain ⟨_, hlen0, hcell0⟩ := World.cells?_some g1
      rw [hC] at hlen0 hcell0
      have hc0 := hcell0 0 hpos
      rw [List.getElem?_eq_getElem (by omega)] at hc0
      simpa [Addr.add] using World.cell?_spot hc0
    subst hspot
    have ad : ∀ j q : Nat, ((⟨b, o, none⟩ : Addr).add j).add q = ⟨b, o + j + q, none⟩ := fun j q => by
      have e0 : ∀ (o' j' : Nat), (⟨b, o', none⟩ : Addr).add j' = ⟨b, o' + j', none⟩ := fun o' j' => by
        unfold Addr.add
        by_cases h0 : j' = 0
        · subst h0; simp
        · simp [h0]
      rw [e0, e0]
    refine ⟨b, o, n', rfl, fun i f hi => ?_⟩
    have hlt : i < fs.size := (Array.getElem?_eq_some_iff.1 hi).1
    obtain ⟨ho, hc1⟩ := hone i f hi
    have g := hf i f hi
    rw [ho, hc1] at g
    have hci := hcell i hlt
    rw [ad] at hci
    have hli : i < cs'.length := by omega
    rw [List.getElem?_eq_getElem hli] at hci
    have hdt : (cs'.drop i).take 1 = [cs'[i]] := by
      rw [List.drop_eq_getElem_cons hli]
      rfl
    rw [hdt, List.getElem?_eq_getElem (by omega)] at g
    exact ⟨_, _, hci, g⟩
end
end Go.Proofs.Ytkgjbmlgbfejlaa

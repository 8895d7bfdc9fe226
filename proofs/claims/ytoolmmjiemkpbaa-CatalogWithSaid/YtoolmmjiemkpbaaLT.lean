/-
  Whether a leaf is right, as a Bool; a slice of bytes read from a place on.
-/
import Derived.Test.YtoolmmjiemkpbaaLB
import Derived.LoopN
import Derived.WalkSpells
import Derived.WalkLawsBesides
namespace Go.Proofs.Ytoolmmjiemkpbaa
set_option linter.unusedVariables false
set_option linter.unusedSimpArgs false
open Go.RowKit

def noughts (xs : List Int) : Bool := xs.all (fun x => x == 0)
theorem noughts_yes (xs : List Int) : noughts xs = true ↔ ∀ k, k < xs.length → xs.getD k 0 = 0 := by
  unfold noughts
  rw [List.all_eq_true]
  constructor
  · intro h k hk
    have := h (xs[k]) (List.getElem_mem hk)
    rw [List.getD_eq_getElem?_getD, List.getElem?_eq_getElem hk]
    simpa using this
  · intro h x hx
    obtain ⟨k, hk, rfl⟩ := List.mem_iff_getElem.1 hx
    have := h k hk
    rw [List.getD_eq_getElem?_getD, List.getElem?_eq_getElem hk] at this
    simpa using this
def twoB (n : Int) : Bool := decide (0 ≤ n) && decide (n ≤ 65535)
theorem twoB_yes {n : Int} : twoB n = true ↔ 0 ≤ n ∧ n ≤ 65535 := by unfold twoB; simp
theorem RdB.drop {w : World} {B b o : Nat} {xs : List Int} (h : RdB w B (some ⟨b, o, none⟩) xs) (m : Nat) : RdB w B (some ⟨b, o + m, none⟩) (xs.drop m) := fun k hk => by
  rw [List.length_drop] at hk
  obtain ⟨b', o', e, h1, h2, h3⟩ := h (m + k) (by omega)
  injection e with e
  injection e with e1 e2
  subst e1 e2
  have q : (xs.drop m).getD k 0 = xs.getD (m + k) 0 := by rw [List.getD_eq_getElem?_getD, List.getElem?_drop, ← List.getD_eq_getElem?_getD]
  rw [q]
  exact ⟨b, o + m, rfl, h1, by rw [Nat.add_assoc]; exact h2, h3⟩
/-- Is it right? -/
def Lf.rt (L : Lf) : Bool := (decide (L.kind = 1) || decide (L.kind = 2)) && (twoB L.file && (twoB L.place && (twoB L.next && (decide (0 ≤ L.size) && (decide (L.size ≤ 116) && noughts (L.load.drop L.size.toNat))))))
theorem bare_iff {L : Lf} (h : L.load.length = 116) (h0 : 0 ≤ L.size) : noughts (L.load.drop L.size.toNat) = true ↔ L.bare := by
  rw [noughts_yes]
  unfold Lf.bare
  have e : ∀ k, (L.load.drop L.size.toNat).getD k 0 = L.load.getD (L.size.toNat + k) 0 := fun k => by
    rw [List.getD_eq_getElem?_getD, List.getElem?_drop, ← List.getD_eq_getElem?_getD]
  constructor
  · intro hk j hj h116
    have := hk (j - L.size.toNat) (by rw [List.length_drop]; omega)
    rw [e] at this
    have q : L.size.toNat + (j - L.size.toNat) = j := by omega
    rw [q] at this
    exact this
  · intro hk k hkl
    rw [List.length_drop] at hkl
    rw [e]
    exact hk _ (by omega) (by omega)
theorem Lf.rt_iff {L : Lf} (h : L.Ok) : L.rt = true ↔ L.Right := by
  unfold Lf.rt
  simp only [Bool.and_eq_true, Bool.or_eq_true, decide_eq_true_eq, twoB_yes]
  constructor
  · rintro ⟨hk, hf, hp, hn, h0, h1, hb⟩
    exact ⟨hk, hf, hp, hn, ⟨h0, h1⟩, (bare_iff h.l h0).1 hb⟩
  · rintro ⟨hk, hf, hp, hn, ⟨h0, h1⟩, hb⟩
    exact ⟨hk, hf, hp, hn, h0, h1, (bare_iff h.l h0).2 hb⟩
theorem Lf.rt_no {L : Lf} (h : L.Ok) : L.rt = false ↔ ¬ L.Right := by
  rw [← Lf.rt_iff h]; cases L.rt <;> simp
end Go.Proofs.Ytoolmmjiemkpbaa

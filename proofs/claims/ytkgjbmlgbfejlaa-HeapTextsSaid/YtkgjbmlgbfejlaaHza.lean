/-
  HeapTexts' arguments as they come in: a slice of texts, a slice of bools.
-/
import Derived.Test.YtkgjbmlgbfejlaaHz
import Derived.Deep.Strs
import Derived.Deep.Grids
namespace Go.Proofs.Ytkgjbmlgbfejlaa
set_option linter.unusedVariables false
set_option linter.unusedSimpArgs false
open Go.RowKit Go.ChangeShapes Go.WideShapes Go.Deep

theorem spot_of {w : World} {a : Addr} {v : Value} (h : w.cell? (a.add 0) = some v) : ∃ b o, a = ⟨b, o, none⟩ := by
  obtain ⟨b, o, spot⟩ := a
  have hs : spot = none := by simpa [Addr.add] using World.cell?_spot h
  subst hs
  exact ⟨b, o, rfl⟩
theorem add_at (b o k : Nat) : (⟨b, o, none⟩ : Addr).add k = ⟨b, o + k, none⟩ := by
  unfold Addr.add
  split
  · subst k; rfl
  · rfl
def TxIn (w : World) (A : Option Addr) (len : Nat) : Prop := ∀ k, k < len → ∃ b o s, A = some ⟨b, o, none⟩ ∧ b < w.heap.size ∧ w.cell? ⟨b, o + k, none⟩ = some (.string s) ∧ s.size ≤ maxLen
def BlIn (w : World) (A : Option Addr) (len : Nat) : Prop := ∀ k, k < len → ∃ b o x, A = some ⟨b, o, none⟩ ∧ b < w.heap.size ∧ w.cell? ⟨b, o + k, none⟩ = some (.bool x)
theorem tx_of {H : Type} {enc : TypeId × Value → H} {w : World} {fuel : Nat} {A : Option Addr} {len cap : Nat} {x : DataW H × List MemPlace} (h : DataW.trod enc Try.prog w 0 (fun _ => true) true fuel 46 [.slice A len cap] = some x) :
    TxIn w A len ∧ len ≤ maxLen := by
  rcases open_strs Try.underlying46 Try.underlying9 (by kernel_rfl) h with ⟨h0, _⟩ | ⟨a, len', cap', m, Sx, h0, hb, hl, hm, hmm, _, hx⟩
  · injection h0 with h0 _
    injection h0 with h0 h1 h2
    subst h0 h1 h2
    exact ⟨fun k hk => absurd hk (Nat.not_lt_zero _), Nat.zero_le _⟩
  · injection h0 with h0 _
    injection h0 with h0 h1 h2
    subst h0 h1 h2
    simp only [if_true] at hmm
    subst hmm
    refine ⟨fun k hk => ?_, Nat.le_trans hl hm⟩
    obtain ⟨b, o, rfl⟩ := spot_of (hx 0 (by omega)).1
    obtain ⟨q1, q2⟩ := hx k (by omega)
    rw [add_at] at q1
    exact ⟨b, o, Sx k, rfl, World.block_lt_of_cell? _ _ q1, q1, q2⟩
theorem bl_of {H : Type} {enc : TypeId × Value → H} {w : World} {fuel : Nat} {A : Option Addr} {len cap : Nat} {x : DataW H × List MemPlace} (h : DataW.trod enc Try.prog w 0 (fun _ => true) true fuel 42 [.slice A len cap] = some x) :
    BlIn w A len ∧ len ≤ maxLen := by
  rcases open_bools Try.underlying42 Try.underlying4 (by kernel_rfl) h with ⟨h0, _⟩ | ⟨a, len', cap', B, h0, hb, hl, hm, _, hx⟩
  · injection h0 with h0 _
    injection h0 with h0 h1 h2
    subst h0 h1 h2
    exact ⟨fun k hk => absurd hk (Nat.not_lt_zero _), Nat.zero_le _⟩
  · injection h0 with h0 _
    injection h0 with h0 h1 h2
    subst h0 h1 h2
    refine ⟨fun k hk => ?_, Nat.le_trans hl hm⟩
    obtain ⟨b, o, rfl⟩ := spot_of (hx 0 (by omega))
    have q1 := hx k (by omega)
    rw [add_at] at q1
    exact ⟨b, o, B k, rfl, World.block_lt_of_cell? _ _ q1, q1⟩
end Go.Proofs.Ytkgjbmlgbfejlaa

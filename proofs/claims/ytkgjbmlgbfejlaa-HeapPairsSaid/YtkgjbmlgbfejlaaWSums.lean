/-
  A slice of ints that came in, and the sums of its numbers.
-/
import Derived.Test.YtkgjbmlgbfejlaaProg
import Derived.Test.YtkgjbmlgbfejlaaWNum
import Derived.WalkKit
namespace Go.Proofs.Ytkgjbmlgbfejlaa
set_option linter.unusedVariables false
set_option linter.unusedSimpArgs false
open Go.RowKit

/-- A slice of ints that came in. -/
def RA (w : World) (A : Option Addr) (len cap : Nat) (zs : List Int) : Prop :=
  len ≤ cap ∧ cap ≤ maxLen ∧ ∀ k, k < len → ∃ b o, A = some ⟨b, o, none⟩ ∧ b < w.heap.size ∧ w.cell? ⟨b, o + k, none⟩ = some (.int .i64 (zs.getD k 0)) ∧ I64 (zs.getD k 0)

/-- The sum of the first k numbers; of the last k of n. -/
def sumTo (zs : List Int) : Nat → Int
  | 0 => 0
  | k + 1 => sumTo zs k + zs.getD k 0
def sumBack (zs : List Int) (n : Nat) : Nat → Int
  | 0 => 0
  | k + 1 => sumBack zs n k + zs.getD (n - 1 - k) 0
theorem sum_split (zs : List Int) (n : Nat) : ∀ k, k ≤ n → sumTo zs (n - k) + sumBack zs n k = sumTo zs n
  | 0, _ => by simp [sumBack]
  | k + 1, h => by
    have ih := sum_split zs n k (by omega)
    have e : n - k = (n - (k + 1)) + 1 := by omega
    rw [e] at ih
    have f : n - (k + 1) = n - 1 - k := by omega
    simp only [sumTo, sumBack] at ih ⊢
    rw [f] at ih ⊢
    omega
theorem sum_same (zs : List Int) (n : Nat) : sumBack zs n n = sumTo zs n := by
  have := sum_split zs n n (Nat.le_refl _)
  rw [Nat.sub_self] at this
  simpa [sumTo] using this
theorem sum_bd (zs : List Int) (n : Nat) (h : ∀ k, k < n → I64 (zs.getD k 0)) : ∀ k, k ≤ n → -9223372036854775808 * (k : Int) ≤ sumTo zs k ∧ sumTo zs k ≤ 9223372036854775808 * (k : Int)
  | 0, _ => by simp [sumTo]
  | k + 1, hk => by
    have ih := sum_bd zs n h k (by omega)
    have := h k (by omega)
    unfold I64 at this
    simp only [sumTo]
    omega
theorem sum_W128 (zs : List Int) (n : Nat) (h : ∀ k, k < n → I64 (zs.getD k 0)) (k : Nat) (hk : k ≤ n) (hs : k ≤ 1000000) : W128 (sumTo zs k) := by
  have := sum_bd zs n h k hk
  unfold W128
  omega
end Go.Proofs.Ytkgjbmlgbfejlaa

/-
  Slices of ints and ints that came in, for the laws of flow; Within.
-/
import Derived.Test.YtjjkddahfmkhoaaBWithin
import Derived.Test.YtjjkddahfmkhoaaGa
import Derived.ProofKit
import Derived.OpenShut
namespace Go.Proofs.Ytjjkddahfmkhoaa
set_option linter.unusedVariables false
set_option linter.unusedSimpArgs false
open Go.RowKit

/-- A number that fits an int. -/
def Ifit (n : Int) : Prop := -9223372036854775808 ≤ n ∧ n ≤ 9223372036854775807
theorem ifit_of {x : Int} (h : (Lit.int .i64 x).wf = true) : Ifit x := by
  simp [Lit.wf, IntKind.min, IntKind.max, IntKind.signed, IntKind.bits] at h
  exact ⟨by omega, by omega⟩
/-- A slice of ints that came in. -/
def RF (w : World) (A : Option Addr) (len cap : Nat) (zs : List Int) : Prop :=
  (len ≤ cap ∧ cap ≤ maxLen ∧ (A = none → cap = 0)) ∧ ∀ k, k < len → ∃ b o, A = some ⟨b, o, none⟩ ∧ b < w.heap.size ∧ w.cell? ⟨b, o + k, none⟩ = some (.int .i64 (zs.getD k 0)) ∧ Ifit (zs.getD k 0)
theorem rf_of {w : World} {A : Option Addr} {len cap : Nat} {zs : List Int}
    (h : (A = none ∧ len = 0 ∧ cap = 0 ∧ zs = []) ∨ ∃ x, A = some x ∧ len ≤ cap ∧ cap ≤ maxLen ∧ zs.length = cap ∧ (∀ i, i < zs.length → w.cell? (x.add i) = some (.int .i64 (zs.getD i 0))) ∧ ∀ n ∈ zs, (Lit.int .i64 n).wf = true) : RF w A len cap zs := by
  rcases h with ⟨rfl, rfl, rfl, rfl⟩ | ⟨x, rfl, h1, h2, h3, h4, h5⟩
  · exact ⟨⟨Nat.le_refl _, Nat.zero_le _, fun _ => rfl⟩, fun k hk => absurd hk (by omega)⟩
  · refine ⟨⟨h1, h2, fun h => by cases h⟩, fun k hk => ?_⟩
    obtain ⟨b, o, rfl, hc⟩ := ints_at h4 (by omega)
    have hkl : k < zs.length := by omega
    refine ⟨b, o, rfl, ?_, hc k hkl, ?_⟩
    · exact World.block_lt_of_cell? _ _ (hc k hkl)
    · refine ifit_of (h5 _ ?_)
      rw [List.getD_eq_getElem?_getD, List.getElem?_eq_getElem hkl]
      exact List.getElem_mem hkl
/-- The head of such a slice, as a list. -/
theorem RF.own {w : World} {A : Option Addr} {len cap n : Nat} {zs : List Int} (h : RF w A len cap zs) (hn : n ≤ len) : IFw w A ((List.range n).map (fun k => zs.getD k 0)) ∧ ((List.range n).map (fun k => zs.getD k 0)).length = n ∧ ∀ x, x ∈ (List.range n).map (fun k => zs.getD k 0) → Ifit x := by
  refine ⟨fun k x hx => ?_, by rw [List.length_map, List.length_range], fun x hx => ?_⟩
  · have hk : k < n := by have := (List.getElem?_eq_some_iff.1 hx).1; rw [List.length_map, List.length_range] at this; exact this
    obtain ⟨b, o, h1, h2, h3, _⟩ := h.2 k (by omega)
    refine ⟨b, o, h1, h2, ?_⟩
    rw [List.getElem?_map, List.getElem?_range hk] at hx
    have hx : zs.getD k 0 = x := by simpa using hx
    rw [h3, hx]
  · obtain ⟨k, hk, rfl⟩ := List.mem_map.1 hx
    have hk := List.mem_range.1 hk
    obtain ⟨b, o, h1, h2, h3, h4⟩ := h.2 k (by omega)
    exact h4
theorem fwithin_in (n lo hi : Int) (hn : Ifit n) (l0 : -9223372036854775808 ≤ lo) (hl : lo ≤ hi) (h1 : hi ≤ 9223372036854775807) (hm : hi - lo + 1 ≤ 9223372036854775807) (w : World) :
    Calls Try.prog 16 #[.int .i64 n, .int .i64 lo, .int .i64 hi] w fun e w' => ∃ y : Int, e = .returned (.int .i64 y) ∧ lo ≤ y ∧ y ≤ hi ∧ w = w' := by
  refine (bwithin_any n lo hi hn.1 hn.2 l0 hl h1 hm w).mono fun e w' ⟨he, hw⟩ => ⟨_, he, ?_, ?_, hw⟩
  · have := Int.emod_nonneg n (show hi - lo + 1 ≠ 0 by omega); omega
  · have := Int.emod_lt_of_pos n (show 0 < hi - lo + 1 by omega); omega
end Go.Proofs.Ytjjkddahfmkhoaa

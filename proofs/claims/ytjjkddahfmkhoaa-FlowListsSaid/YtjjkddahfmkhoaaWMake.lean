/-
  make([]byte, n): so many noughts of the call's own.
-/
import Derived.Test.YtjjkddahfmkhoaaWApp
namespace Go.Proofs.Ytjjkddahfmkhoaa
set_option linter.unusedVariables false
set_option linter.unusedSimpArgs false
open Go.RowKit

/-- So many noughts. -/
def zeros (n : Nat) : List Int := List.replicate n 0
theorem zeros_length (n : Nat) : (zeros n).length = n := by unfold zeros; rw [List.length_replicate]
theorem made_vals (n : Nat) : (madeCells (Value.int .u8 0).cells (n * 1)).toList = vals (zeros n) := by
  apply List.ext_getElem?
  intro i
  unfold madeCells vals zeros
  simp [Value.cells, List.getElem?_replicate]
  by_cases h : i < n
  · rw [List.getElem?_range h]
    simp [h, Nat.mod_one]
  · rw [List.getElem?_eq_none (by simp; omega)]
    simp [h]
theorem make_own (w : World) {ops : Array Oper} {rs : List Oper} {o : Oper} {a : Act} {Q : Exit → Act → World → Prop} (hgd : o.guard = none)
    (l c : Operand) (ho : o.op = .makeSlice 42 l c) (base n : Nat) (hl : a.eval l = .int .i64 n) (hc : a.eval c = .int .i64 n) (hn : n ≤ 1000000) (hb : base ≤ w.heap.size)
    (h : ∀ w', Own w' base w.heap.size n (zeros n) → Below w.heap.size w w' → wpList Try.prog ops Q rs (a.put o.dst (.slice (some ⟨w.heap.size, 0, none⟩) n n)) w') :
    wpList Try.prog ops Q (o :: rs) a w := by
  obtain ⟨i0, hi, hz0, hz1, hz2⟩ := info_parts Try.info_byte
  refine wpList_make_full w hgd l c 42 ho base 5 i0 (.int .u8 0) 1 Try.underlying42 hi hz0 hz1 .i64 .i64 n n n hl hc rfl rfl (by rw [hz2]; omega) (by unfold maxLen; omega) hb ?_
  intro w' h1 h2
  rw [made_vals] at h1
  refine h w' ⟨?_, fun k hk => ?_⟩ ?_
  · rw [zeros_length]; exact h1
  · rw [zeros_length] at hk
    unfold zeros
    rw [List.getD_eq_getElem?_getD, List.getElem?_replicate]
    simp [hk]
    exact ⟨by decide, by decide⟩
  · exact Below.grown (Below.refl _ _) h2 (Nat.le_refl _) (fun k hk => by cases hk)
/-- make([]byte, 0, n): room of the call's own. -/
theorem make_room (w : World) {ops : Array Oper} {rs : List Oper} {o : Oper} {a : Act} {Q : Exit → Act → World → Prop} (hgd : o.guard = none)
    (l c : Operand) (ho : o.op = .makeSlice 42 l c) (base n : Nat) (hl : a.eval l = .int .i64 0) (hc : a.eval c = .int .i64 n) (hn : n ≤ 1000000) (hb : base ≤ w.heap.size)
    (h : ∀ w', Own w' base w.heap.size n [] → Below w.heap.size w w' → wpList Try.prog ops Q rs (a.put o.dst (.slice (some ⟨w.heap.size, 0, none⟩) 0 n)) w') :
    wpList Try.prog ops Q (o :: rs) a w := by
  obtain ⟨i0, hi, hz0, hz1, hz2⟩ := info_parts Try.info_byte
  refine wpList_make_own w hgd l c 42 ho base 5 i0 (.int .u8 0) 1 Try.underlying42 hi hz0 hz1 .i64 .i64 n n hl hc rfl (by rw [hz2]; omega) (by unfold maxLen; omega) hb ?_
  intro w' h1 h2
  exact h w' ⟨h1, fun k hk => absurd hk (by simp)⟩ (Below.grown (Below.refl _ _) h2 (Nat.le_refl _) (fun k hk => by cases hk))
end Go.Proofs.Ytjjkddahfmkhoaa

/-
  Bytes written out as a row of the call's own; an append as one step of a region that draws its order.
-/
import Derived.Test.YtkmlajlnpfoepaaWApp
import Derived.Deep.AppendLies
namespace Go.Proofs.Ytkmlajlnpfoepaa
set_option linter.unusedVariables false
set_option linter.unusedSimpArgs false
open Go.RowKit

theorem Own.lit (w : World) (base : Nat) (hb : base ≤ w.heap.size) (cs : Array Value) (xs : List Int) (h : cs.toList = vals xs) (hu : ∀ k, k < xs.length → U8 (xs.getD k 0)) (n : Nat) (hn : xs.length = n) (hm : n ≤ 1000000) : Own (w.alloc (.cells cs 5)) base w.heap.size n xs := by
  refine ⟨⟨by rw [vals_length, Nat.mul_one], Or.inr ⟨w.heap.size, n, cs, rfl, hb, heap_alloc_new w _, by omega, by unfold maxLen; omega, ?_, ?_⟩⟩, hu⟩
  · rw [← Array.length_toList, h, vals_length, hn, Nat.mul_one]
  · rw [h, Nat.mul_one, List.take_of_length_le (by rw [vals_length]; exact Nat.le_refl _)]
/-- A slice that reads stays, when another row grows. -/
theorem RdB.grown {w w' : World} {B g b o : Nat} {xs : List Int} (h : RdB w B (some ⟨b, o, none⟩) xs) (hg : w.grownBy w' (some g)) (hB : B ≤ w.heap.size) (hne : b ≠ g) : RdB w' B (some ⟨b, o, none⟩) xs := fun k hk => by
  obtain ⟨b', o', e, h2, h3, h4⟩ := h k hk
  injection e with e; injection e with e1 e2; subst e1 e2
  exact ⟨b, o, rfl, h2, by rw [World.cell?_of_block (w := w) (a := ⟨b, o + k, none⟩) (hg.block b (by omega) (fun e => hne (by injection e)))]; exact h3, h4⟩
theorem step_app {w : World} {ops : Array Oper} {o : Oper} {a : Act} {K : Act → World → Prop} {Q : Exit → Act → World → Prop} {E : Prop} (hgd : o.guard = none) (s x : Operand)
    (ho : o.op = .call { callee := .builtin .append, args := #[s, x], argTypes := #[25, 25] })
    (base g cap k : Nat) (ys : List Int) (hk : ys.length = k) (hs : a.eval s = .slice (some ⟨g, 0, none⟩) k cap) (hown : Own w base g cap ys)
    (B b' o' : Nat) (m c : Nat) (xs : List Int) (hm : xs.length = m) (hx : a.eval x = .slice (some ⟨b', o', none⟩) m c) (hr : RdB w B (some ⟨b', o', none⟩) xs) (h0 : 0 < m)
    (hl : k + m ≤ 1000000) (hbase : base ≤ w.heap.size)
    (h : ∀ g' cap' w', Own w' base g' cap' (ys ++ xs) → w.grownBy w' (some g) → K (a.put o.dst (.slice (some ⟨g', 0, none⟩) (k + m) cap')) w') :
    if Region.wanted o (yielded ops a.tmps) = true then Oper.wp Try.prog o a w K Q else E := by
  subst hk hm
  obtain ⟨i0, hi, hz0, hz1, hz2⟩ := info_parts Try.info_byte
  refine step_append_lies w hgd s x 25 ho base 5 i0 (.int .u8 0) 1 1 Try.underlying25 hi hz0 hz1 hz2 rfl (by decide) _ ys.length (vals ys) hs hown.1 ⟨b', o', none⟩ xs.length c (vals xs) hx (by rw [vals_length, Nat.mul_one]) hr.news (vals_one xs) h0 (by unfold maxLen; omega) (by omega) hbase w.heap.size rfl ?_
  intro g' cap' w' h1 h2 _ _
  rw [vals_append, ← List.length_append] at h1
  refine h g' cap' w' ⟨h1, fun q hq => ?_⟩ h2
  rw [getD_append]
  rw [List.length_append] at hq
  split
  · exact hown.2 q (by assumption)
  · obtain ⟨_, _, _, _, _, hu⟩ := hr (q - ys.length) (by omega)
    exact hu
end Go.Proofs.Ytkmlajlnpfoepaa

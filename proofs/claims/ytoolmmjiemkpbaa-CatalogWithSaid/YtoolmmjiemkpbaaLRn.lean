/-
  The document's own low (sheafref5), onto nothing.
-/
import Derived.Test.YtoolmmjiemkpbaaLRa
import Derived.Test.YtoolmmjiemkpbaaKeep
import Derived.Deep.AppendLies
namespace Go.Proofs.Ytoolmmjiemkpbaa
set_option linter.unusedVariables false
set_option linter.unusedSimpArgs false
open Go.RowKit

/-- An append onto nothing. -/
theorem app_nil (w : World) {ops : Array Oper} {rs : List Oper} {o : Oper} {a : Act} {Q : Exit → Act → World → Prop} (hgd : o.guard = none)
    (s x : Operand) (ho : o.op = .call { callee := .builtin .append, args := #[s, x], argTypes := #[43, 43] })
    (base : Nat) (hs : a.eval s = .slice none 0 0)
    (B : Nat) (A : Option Addr) (m c : Nat) (xs : List Int) (hm : xs.length = m) (hx : a.eval x = .slice A m c) (hr : RdB w B A xs) (h0 : 0 < m)
    (hl : m ≤ 1000000) (hbase : base ≤ w.heap.size)
    (h : ∀ g' cap' w', Own w' base g' cap' xs → Below w.heap.size w w' → wpList Try.prog ops Q rs (a.put o.dst (.slice (some ⟨g', 0, none⟩) m cap')) w') :
    wpList Try.prog ops Q (o :: rs) a w := by
  subst hm
  obtain ⟨i0, hi, hz0, hz1, hz2⟩ := info_parts Try.info_byte
  obtain ⟨b, o', rfl, _, _, _⟩ := hr 0 h0
  refine wpList_append_own w hgd s x 43 ho base 5 i0 (.int .u8 0) 1 1 Try.underlying43 hi hz0 hz1 hz2 rfl (by decide) (.slice none 0 0) 0 [] hs ⟨rfl, Or.inl ⟨rfl, rfl⟩⟩ ⟨b, o', none⟩ xs.length c (vals xs) hx (by rw [vals_length, Nat.mul_one]) hr.news (vals_one xs) (by unfold maxLen; omega) (by omega) hbase ?_
  intro v' w' h1 h2 h3
  have hpos : 0 < 0 + xs.length := by omega
  obtain ⟨g', cap', hv, _, _⟩ := h1.form hpos
  subst hv
  rw [List.nil_append, Nat.zero_add] at h1
  have := h g' cap' w' ⟨h1, fun k hk => by obtain ⟨_, _, _, _, _, hu⟩ := hr k hk; exact hu⟩ (Below.grown (Below.refl _ _) h2 (Nat.le_refl _) (fun k hk => by cases hk))
  rw [Nat.zero_add]
  exact this
/-- An append onto one's own row, and where the row lies behind it. -/
theorem app_at (w : World) {ops : Array Oper} {rs : List Oper} {o : Oper} {a : Act} {Q : Exit → Act → World → Prop} (hgd : o.guard = none)
    (s x : Operand) (ho : o.op = .call { callee := .builtin .append, args := #[s, x], argTypes := #[43, 43] })
    (base g cap k : Nat) (ys : List Int) (hk : ys.length = k) (hs : a.eval s = .slice (some ⟨g, 0, none⟩) k cap) (hown : Own w base g cap ys)
    (B : Nat) (A : Option Addr) (m c : Nat) (xs : List Int) (hm : xs.length = m) (hx : a.eval x = .slice A m c) (hr : RdB w B A xs) (h0 : 0 < m)
    (hl : k + m ≤ 1000000) (hbase : base ≤ w.heap.size)
    (h : ∀ g' cap' w', Own w' base g' cap' (ys ++ xs) → Keep (· = g) w w' → (g' = g ∨ w.heap.size ≤ g') → wpList Try.prog ops Q rs (a.put o.dst (.slice (some ⟨g', 0, none⟩) (k + m) cap')) w') :
    wpList Try.prog ops Q (o :: rs) a w := by
  subst hk hm
  obtain ⟨i0, hi, hz0, hz1, hz2⟩ := info_parts Try.info_byte
  have hU : ∀ k, k < (ys ++ xs).length → U8 ((ys ++ xs).getD k 0) := fun k hk => by
    rw [getD_append]
    rw [List.length_append] at hk
    split
    · exact hown.2 k (by assumption)
    · obtain ⟨_, _, _, _, _, hu⟩ := hr (k - ys.length) (by omega)
      exact hu
  obtain ⟨b, o', rfl, _, _, _⟩ := hr 0 h0
  refine wpList_append_lies w hgd s x 43 ho base 5 i0 (.int .u8 0) 1 1 Try.underlying43 hi hz0 hz1 hz2 rfl (by decide) _ ys.length (vals ys) hs hown.1 ⟨b, o', none⟩ xs.length c (vals xs) hx (by rw [vals_length, Nat.mul_one]) hr.news (vals_one xs) h0 (by unfold maxLen; omega) (by omega) hbase w.heap.size rfl ?_
  intro g' cap' w' h1 h2 h3 _
  rw [vals_append, ← List.length_append] at h1
  have := h g' cap' w' ⟨h1, hU⟩ ⟨h2.os, h2.tape, h2.output, h2.size, fun q hq hn => h2.block q hq (fun e => hn (by injection e))⟩ (by
    rcases h3 with e | e
    · have e : some g = some g' := e
      injection e with e
      exact Or.inl e.symm
    · exact Or.inr (by omega))
  exact this
/-- What low leaves, and what it leaves alone. -/
def LowK (base g k m : Nat) (ys : List Int) (w : World) (e : Ending) (w' : World) : Prop :=
  ∃ g' c, e = .returned (.slice (some ⟨g', 0, none⟩) (k + m) c) ∧ Own w' base g' c ys ∧ Keep (· = g) w w' ∧ (g' = g ∨ w.heap.size ≤ g')
end Go.Proofs.Ytoolmmjiemkpbaa

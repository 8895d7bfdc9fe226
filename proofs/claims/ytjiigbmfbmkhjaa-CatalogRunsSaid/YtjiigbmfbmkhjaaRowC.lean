/-
  Rows of structs of the call's own: empty ones, many elements more; a slice against nil.
-/
import Derived.Test.YtjiigbmfbmkhjaaMemN
import Derived.Deep.MidRow
namespace Go.Proofs.Ytjiigbmfbmkhjaa
set_option linter.unusedVariables false
set_option linter.unusedSimpArgs false
open Go.RowKit

/-- Many elements onto an empty list of the call's own. -/
theorem app_rowsN (w : World) {ops : Array Oper} {rs : List Oper} {o : Oper} {a : Act} {Q : Exit → Act → World → Prop} (hgd : o.guard = none)
    (s x : Operand) (t e : TypeId) (ho : o.op = .call { callee := .builtin .append, args := #[s, x], argTypes := #[t, t] }) (hu : Try.prog.underlying t = some (.slice e))
    (zv : Value) (z nb : Nat) (hinf : (Try.prog.info? e).map (fun i => (i.zero, i.size, i.bytes)) = some (some zv, z, nb)) (hzc : zv.cells.size = z) (hz : 0 < z) (hnb : nb ≤ 10000)
    (base : Nat) (g c k : Nat) (ys : List Value) (hs : a.eval s = .slice (some ⟨g, 0, none⟩) k c) (hown : RowN w base e z (some ⟨g, 0, none⟩) k c ys)
    (ad : Addr) (m c' : Nat) (xs : List Value) (hm : xs.length = m * z) (hx : a.eval x = .slice (some ad) m c') (hsrc : ∀ (j : Nat) (u : Value), xs[j]? = some u → w.cell? (ad.add j) = some u) (h1 : ∀ u, u ∈ xs → u.oneCell' = true) (hl : k + m ≤ 1000000000) (hbase : base ≤ w.heap.size)
    (h : ∀ g' c'' w', RowN w' base e z (some ⟨g', 0, none⟩) (k + m) c'' (ys ++ xs) → w.grownBy w' (some g) → wpList Try.prog ops Q rs (a.put o.dst (.slice (some ⟨g', 0, none⟩) (k + m) c'')) w') :
    wpList Try.prog ops Q (o :: rs) a w := by
  obtain ⟨i0, hi, hz0, hz1, hz2⟩ := info_parts hinf
  rcases Nat.eq_zero_or_pos m with h0 | h0
  · subst h0
    rw [Nat.zero_mul] at hm
    obtain rfl : xs = [] := List.eq_nil_of_length_eq_zero hm
    refine wpList_append_fits_any w hgd s x t ho base e i0 z hu hi hz1 g k c ys hs hown (some ad) 0 c' [] hx (by simp) (fun e => (by cases e)) (fun _ _ j u hu => by simp at hu) (fun u hu => by simp at hu) (by have := hown.cap; omega) ?_
    intro w' k1 k2
    exact h g c w' k1 k2
  · refine wpList_append_own w hgd s x t ho base e i0 zv z nb hu hi hz0 hz1 hz2 hzc hz _ k ys hs hown ad m c' xs hx hm hsrc h1 (by unfold maxLen; omega) ?_ hbase ?_
    · have := Nat.mul_le_mul hl hnb
      omega
    · intro v' w' k1 k2 k3
      obtain ⟨g', cap', hv, _, _⟩ := k1.form (by omega)
      subst hv
      exact h g' cap' w' k1 k2
theorem RowN.empty (w : World) (e : TypeId) (z base : Nat) (hb : base ≤ w.heap.size) : RowN (w.alloc (.cells #[] e)) base e z (some ⟨w.heap.size, 0, none⟩) 0 0 [] :=
  RowN.mk (cur := #[]) hb (heap_alloc_new w _) (Nat.le_refl _) (Nat.zero_le _) (by simp) (by simp)
theorem RowN.src {w : World} {base : Nat} {e : TypeId} {z n c g : Nat} {xs : List Value} (h : RowN w base e z (some ⟨g, 0, none⟩) n c xs) (j : Nat) (u : Value) (hu : xs[j]? = some u) : w.cell? ((⟨g, 0, none⟩ : Addr).add j) = some u := by
  rcases h.parts with ⟨e1, _⟩ | ⟨g', cur, e1, hb, h1, h2, h3, h4, h5⟩
  · cases e1
  · injection e1 with e1
    injection e1 with e1
    subst e1
    have hj : j < xs.length := by
      rcases Nat.lt_or_ge j xs.length with e | e
      · exact e
      · rw [List.getElem?_eq_none e] at hu; cases hu
    rw [Addr.add_mid, Nat.zero_add, cell_of_row w g j cur _ (0, 0) h1]
    rw [← h5, List.getElem?_take] at hu
    split at hu
    · simpa using hu
    · cases hu
theorem RowN.len {w : World} {base : Nat} {e : TypeId} {z : Nat} {A : Option Addr} {n c : Nat} {xs : List Value} (h : RowN w base e z A n c xs) : xs.length = n * z := h.1

theorem equal_in (d : Nat) (t e : TypeId) (a : Option Addr) (l c : Nat) (h : Try.prog.underlying t = some (.slice e)) (w : World) : (Op.equalIn (d + 1) t (.slice a l c) (.slice none 0 0)).run Try.prog w = .ok a.isNone w := by cases a <;> simp [Op.equalIn, run_underlying h]
theorem eql_nil (t e : TypeId) (a : Option Addr) (l c : Nat) (h : Try.prog.underlying t = some (.slice e)) (w : World) : (binOp .eql t (.slice a l c) (.slice none 0 0)).run Try.prog w = .ok (.bool a.isNone) w := by
  simp only [binOp]
  simp [Op.equal, Op.maxDepth, equal_in 9999 t e a l c h]
end Go.Proofs.Ytjiigbmfbmkhjaa

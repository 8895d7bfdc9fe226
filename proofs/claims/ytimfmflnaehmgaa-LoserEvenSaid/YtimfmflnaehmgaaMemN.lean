/-
  Rows of structs that a thing holds in blocks of its own: z cells an element.
-/
import Derived.Test.YtimfmflnaehmgaaMem
import Derived.OwnWalk
namespace Go.Proofs.Ytimfmflnaehmgaa
set_option linter.unusedVariables false
set_option linter.unusedSimpArgs false
open Go.RowKit

/-- The slice at A, of n elements of z cells each and capacity c, holds the cells xs, and lies in a block of its own from its head on (or is nil). -/
def RowN (w : World) (base : Nat) (e : TypeId) (z : Nat) (A : Option Addr) (n c : Nat) (xs : List Value) : Prop := w.ownsRow base e z (.slice A n c) n xs
theorem RowN.parts {w : World} {base : Nat} {e : TypeId} {z : Nat} {A : Option Addr} {n c : Nat} {xs : List Value} (h : RowN w base e z A n c xs) :
    (A = none ∧ c = 0 ∧ n = 0 ∧ xs = []) ∨ ∃ g cur, A = some ⟨g, 0, none⟩ ∧ base ≤ g ∧ w.heap[g]? = some (.cells cur e (0, 0)) ∧ n ≤ c ∧ c ≤ maxLen ∧ cur.size = c * z ∧ cur.toList.take (n * z) = xs := by
  rcases h.2 with ⟨h1, h2⟩ | ⟨g, cap, cur, h1, hb, h2, h3, h4, h5, h6⟩
  · left
    injection h1 with h1 _ h3
    refine ⟨h1, h3, h2, List.eq_nil_of_length_eq_zero ?_⟩
    rw [h.1, h2, Nat.zero_mul]
  · right
    injection h1 with h1 _ h7
    subst h7
    exact ⟨g, cur, h1, hb, h2, h3, h4, h5, h6⟩
theorem RowN.mk {w : World} {base : Nat} {e : TypeId} {z n c g : Nat} {xs : List Value} {cur : Array Value} (hb : base ≤ g) (h : w.heap[g]? = some (.cells cur e (0, 0))) (h1 : n ≤ c) (h2 : c ≤ maxLen) (h3 : cur.size = c * z) (h4 : cur.toList.take (n * z) = xs) : RowN w base e z (some ⟨g, 0, none⟩) n c xs := by
  refine ⟨?_, Or.inr ⟨g, c, cur, rfl, hb, h, h1, h2, h3, h4⟩⟩
  rw [← h4, List.length_take, Array.length_toList, h3]
  exact Nat.min_eq_left (Nat.mul_le_mul_right z h1)
theorem RowN.nil (w : World) (base : Nat) (e : TypeId) (z : Nat) : RowN w base e z none 0 0 [] := ⟨by simp, Or.inl ⟨rfl, rfl⟩⟩
theorem RowN.same {w w' : World} {base : Nat} {e : TypeId} {z : Nat} {A : Option Addr} {n c : Nat} {xs : List Value} (h : RowN w base e z A n c xs) (k : ∀ a, A = some a → w'.heap[a.block]? = w.heap[a.block]?) : RowN w' base e z A n c xs := by
  rcases h.parts with ⟨rfl, rfl, rfl, rfl⟩ | ⟨g, cur, rfl, hb, h1, h2, h3, h4, h5⟩
  · exact RowN.nil _ _ _ _
  · exact RowN.mk hb (by rw [k _ rfl]; exact h1) h2 h3 h4 h5
theorem RowN.lt {w : World} {base : Nat} {e : TypeId} {z : Nat} {A : Option Addr} {n c : Nat} {xs : List Value} (h : RowN w base e z A n c xs) (a : Addr) (ha : A = some a) : base ≤ a.block ∧ a.block < w.heap.size := by
  rcases h.parts with ⟨rfl, rfl, rfl, rfl⟩ | ⟨g, cur, rfl, hb, h1, h2, h3, h4, h5⟩
  · cases ha
  · injection ha with ha
    subst ha
    refine ⟨hb, ?_⟩
    rcases Nat.lt_or_ge g w.heap.size with e | e
    · exact e
    · rw [Array.getElem?_eq_none (by exact e)] at h1; cases h1
theorem RowN.below {w w' : World} {base : Nat} {e : TypeId} {z : Nat} {A : Option Addr} {n c : Nat} {xs : List Value} (h : RowN w base e z A n c xs) (b : Below w.heap.size w w') : RowN w' base e z A n c xs := h.same (fun a ha => b.block _ (h.lt a ha).2)
theorem RowN.weak {w : World} {base base' : Nat} {e : TypeId} {z : Nat} {A : Option Addr} {n c : Nat} {xs : List Value} (h : RowN w base e z A n c xs) (k : ∀ a, A = some a → base' ≤ a.block) : RowN w base' e z A n c xs := by
  rcases h.parts with ⟨rfl, rfl, rfl, rfl⟩ | ⟨g, cur, rfl, hb, h1, h2, h3, h4, h5⟩
  · exact RowN.nil _ _ _ _
  · exact RowN.mk (k ⟨g, 0, none⟩ rfl) h1 h2 h3 h4 h5
theorem RowN.cap {w : World} {base : Nat} {e : TypeId} {z : Nat} {A : Option Addr} {n c : Nat} {xs : List Value} (h : RowN w base e z A n c xs) : n ≤ c ∧ c ≤ maxLen := by
  rcases h.parts with ⟨rfl, rfl, rfl, rfl⟩ | ⟨g, cur, rfl, hb, h1, h2, h3, h4, h5⟩
  · exact ⟨Nat.le_refl _, Nat.zero_le _⟩
  · exact ⟨h2, h3⟩
theorem RowN.at {w : World} {base : Nat} {e : TypeId} {z : Nat} {A : Option Addr} {n c : Nat} {xs : List Value} (h : RowN w base e z A n c xs) (hp : 0 < n) : ∃ g, A = some ⟨g, 0, none⟩ ∧ ∀ k, w.frozen? ⟨g, k, none⟩ = false ∧ (k < n * z → w.cell? ⟨g, k, none⟩ = xs[k]?) := by
  rcases h.parts with ⟨rfl, rfl, rfl, rfl⟩ | ⟨g, cur, rfl, hb, h1, h2, h3, h4, h5⟩
  · simp at hp
  · refine ⟨g, rfl, fun k => ⟨frozen_of_row w g k cur e h1, fun hk => ?_⟩⟩
    rw [cell_of_row w g k cur e (0, 0) h1, ← h5, List.getElem?_take, if_pos hk]
    simp
theorem RowN.set {w : World} {base : Nat} {e : TypeId} {z n c g : Nat} {xs : List Value} (h : RowN w base e z (some ⟨g, 0, none⟩) n c xs) (k : Nat) (v : Value) : RowN (w.setCell ⟨g, k, none⟩ v) base e z (some ⟨g, 0, none⟩) n c (xs.set k v) := by
  rcases h.parts with ⟨h, _⟩ | ⟨g', cur, h0, hb, h1, h2, h3, h4, h5⟩
  · cases h
  · injection h0 with h0
    injection h0 with h0
    subst h0
    refine RowN.mk (cur := cur.setIfInBounds k v) hb (heap_setCell_same w g k cur e v h1) h2 h3 (by simp; exact h4) ?_
    rw [Array.toList_setIfInBounds, List.take_set, h5]
theorem RowN.kind {w : World} {base : Nat} {e : TypeId} {z : Nat} {A : Option Addr} {n c : Nat} {xs : List Value} (h : RowN w base e z A n c xs) (a : Addr) (ha : A = some a) : ∃ cur, w.heap[a.block]? = some (.cells cur e (0, 0)) := by
  rcases h.parts with ⟨rfl, rfl, rfl, rfl⟩ | ⟨g, cur, rfl, hb, h1, h2, h3, h4, h5⟩
  · cases ha
  · injection ha with ha
    subst ha
    exact ⟨cur, h1⟩
/-- A store into another block. -/
theorem RowN.other {w : World} {base : Nat} {e : TypeId} {z : Nat} {A : Option Addr} {n c r k : Nat} {xs : List Value} (h : RowN w base e z A n c xs) (hne : ∀ a, A = some a → a.block ≠ r) (v : Value) : RowN (w.setCell ⟨r, k, none⟩ v) base e z A n c xs :=
  h.same (fun a ha => Below.heap_setCell _ _ _ _ (hne a ha))
/-- A block of another kind is none of its own. -/
theorem RowN.ne {w : World} {base : Nat} {e T : TypeId} {z : Nat} {A : Option Addr} {n c r : Nat} {xs : List Value} {cur : Array Value} (h : RowN w base e z A n c xs) (hr : w.heap[r]? = some (.cells cur T (0, 0))) (hne : T ≠ e) (a : Addr) (ha : A = some a) : a.block ≠ r := fun k => by
  obtain ⟨c1, h1⟩ := h.kind a ha
  rw [k, hr] at h1
  injection h1 with h1
  injection h1 with _ h1
  exact hne h1
/-- One element more. -/
theorem app_rowN (w : World) {ops : Array Oper} {rs : List Oper} {o : Oper} {a : Act} {Q : Exit → Act → World → Prop} (hgd : o.guard = none)
    (s x : Operand) (t e : TypeId) (ho : o.op = .call { callee := .builtin .append, args := #[s, x], argTypes := #[t, t] }) (hu : Try.prog.underlying t = some (.slice e))
    (zv : Value) (z nb : Nat) (hinf : (Try.prog.info? e).map (fun i => (i.zero, i.size, i.bytes)) = some (some zv, z, nb)) (hzc : zv.cells.size = z) (hz : 0 < z) (hnb : nb ≤ 10000)
    (base : Nat) (A : Option Addr) (c k : Nat) (ys : List Value) (hs : a.eval s = .slice A k c) (hown : RowN w base e z A k c ys)
    (ad : Addr) (c' : Nat) (xs : List Value) (hm : xs.length = z) (hx : a.eval x = .slice (some ad) 1 c') (hsrc : ∀ (j : Nat) (u : Value), xs[j]? = some u → w.cell? (ad.add j) = some u) (h1 : ∀ u, u ∈ xs → u.oneCell' = true) (hl : k + 1 ≤ 1000000000) (hbase : base ≤ w.heap.size)
    (h : ∀ g c'' w', RowN w' base e z (some ⟨g, 0, none⟩) (k + 1) c'' (ys ++ xs) → w.grownBy w' (Value.slice A k c).ownBlock → wpList Try.prog ops Q rs (a.put o.dst (.slice (some ⟨g, 0, none⟩) (k + 1) c'')) w') :
    wpList Try.prog ops Q (o :: rs) a w := by
  obtain ⟨i0, hi, hz0, hz1, hz2⟩ := info_parts hinf
  refine wpList_append_own w hgd s x t ho base e i0 zv z nb hu hi hz0 hz1 hz2 hzc hz _ k ys hs hown ad 1 c' xs hx (by rw [Nat.one_mul]; exact hm) hsrc h1 (by unfold maxLen; omega) ?_ hbase ?_
  · have := Nat.mul_le_mul hl hnb
    omega
  · intro v' w' k1 k2 k3
    obtain ⟨g', cap', hv, _, _⟩ := k1.form (by omega)
    subst hv
    exact h g' cap' w' k1 k2
end Go.Proofs.Ytimfmflnaehmgaa

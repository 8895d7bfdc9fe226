/-
  Rows of values that a thing holds in blocks of its own: nil, or a block; what stores, new blocks and appends leave of them.
-/
import Derived.Test.YtjjkddahfmkhoaaKeep
import Derived.Test.YtjjkddahfmkhoaaWArr
import Derived.Test.YtjjkddahfmkhoaaWMake
namespace Go.Proofs.Ytjjkddahfmkhoaa
set_option linter.unusedVariables false
set_option linter.unusedSimpArgs false
open Go.RowKit

/-- The slice at A, of capacity c, holds xs, and lies in a block of its own from its head on (or is nil). -/
def RowA (w : World) (e : TypeId) (A : Option Addr) (c : Nat) (xs : List Value) : Prop := w.ownsRow 0 e 1 (.slice A xs.length c) xs.length xs
theorem RowA.parts {w : World} {e : TypeId} {A : Option Addr} {c : Nat} {xs : List Value} (h : RowA w e A c xs) :
    (A = none ∧ c = 0 ∧ xs = []) ∨ ∃ g cur, A = some ⟨g, 0, none⟩ ∧ w.heap[g]? = some (.cells cur e (0, 0)) ∧ xs.length ≤ c ∧ c ≤ maxLen ∧ cur.size = c ∧ cur.toList.take xs.length = xs := by
  rcases h.2 with ⟨h1, h2⟩ | ⟨g, cap, cur, h1, _, h2, h3, h4, h5, h6⟩
  · left
    injection h1 with h1 _ h3
    exact ⟨h1, h3, List.eq_nil_of_length_eq_zero h2⟩
  · right
    injection h1 with h1 _ h7
    subst h7
    exact ⟨g, cur, h1, h2, h3, h4, by omega, by rw [Nat.mul_one] at h6; exact h6⟩
theorem RowA.mk {w : World} {e : TypeId} {c g : Nat} {xs : List Value} {cur : Array Value} (h : w.heap[g]? = some (.cells cur e (0, 0))) (h1 : xs.length ≤ c) (h2 : c ≤ maxLen) (h3 : cur.size = c) (h4 : cur.toList.take xs.length = xs) : RowA w e (some ⟨g, 0, none⟩) c xs :=
  ⟨by omega, Or.inr ⟨g, c, cur, rfl, Nat.zero_le _, h, h1, h2, by omega, by rw [Nat.mul_one]; exact h4⟩⟩
theorem RowA.nil (w : World) (e : TypeId) : RowA w e none 0 [] := ⟨rfl, Or.inl ⟨rfl, rfl⟩⟩
theorem RowA.same {w w' : World} {e : TypeId} {A : Option Addr} {c : Nat} {xs : List Value} (h : RowA w e A c xs) (k : ∀ a, A = some a → w'.heap[a.block]? = w.heap[a.block]?) : RowA w' e A c xs := by
  rcases h.parts with ⟨rfl, rfl, rfl⟩ | ⟨g, cur, rfl, h1, h2, h3, h4, h5⟩
  · exact RowA.nil _ _
  · exact RowA.mk (by rw [k _ rfl]; exact h1) h2 h3 h4 h5
theorem RowA.lt {w : World} {e : TypeId} {A : Option Addr} {c : Nat} {xs : List Value} (h : RowA w e A c xs) (a : Addr) (ha : A = some a) : a.block < w.heap.size := by
  rcases h.parts with ⟨rfl, rfl, rfl⟩ | ⟨g, cur, rfl, h1, h2, h3, h4, h5⟩
  · cases ha
  · injection ha with ha
    subst ha
    rcases Nat.lt_or_ge g w.heap.size with e | e
    · exact e
    · rw [Array.getElem?_eq_none (by exact e)] at h1; cases h1
theorem RowA.below {w w' : World} {e : TypeId} {A : Option Addr} {c : Nat} {xs : List Value} (h : RowA w e A c xs) (b : Below w.heap.size w w') : RowA w' e A c xs := h.same (fun a ha => b.block _ (h.lt a ha))
theorem RowA.cap {w : World} {e : TypeId} {A : Option Addr} {c : Nat} {xs : List Value} (h : RowA w e A c xs) : xs.length ≤ c ∧ c ≤ maxLen := by
  rcases h.parts with ⟨rfl, rfl, rfl⟩ | ⟨g, cur, rfl, h1, h2, h3, h4, h5⟩
  · exact ⟨Nat.le_refl _, Nat.zero_le _⟩
  · exact ⟨h2, h3⟩
/-- Where its elements lie. -/
theorem RowA.at {w : World} {e : TypeId} {A : Option Addr} {c : Nat} {xs : List Value} (h : RowA w e A c xs) (hp : 0 < xs.length) : ∃ g, A = some ⟨g, 0, none⟩ ∧ ∀ k, w.frozen? ⟨g, k, none⟩ = false ∧ (k < xs.length → w.cell? ⟨g, k, none⟩ = xs[k]?) := by
  rcases h.parts with ⟨rfl, rfl, rfl⟩ | ⟨g, cur, rfl, h1, h2, h3, h4, h5⟩
  · simp at hp
  · refine ⟨g, rfl, fun k => ⟨frozen_of_row w g k cur e h1, fun hk => ?_⟩⟩
    rw [cell_of_row w g k cur e (0, 0) h1, ← h5, List.getElem?_take, if_pos hk]
    simp
theorem RowA.set {w : World} {e : TypeId} {c g : Nat} {xs : List Value} (h : RowA w e (some ⟨g, 0, none⟩) c xs) (k : Nat) (v : Value) : RowA (w.setCell ⟨g, k, none⟩ v) e (some ⟨g, 0, none⟩) c (xs.set k v) := by
  rcases h.parts with ⟨h, _⟩ | ⟨g', cur, h0, h1, h2, h3, h4, h5⟩
  · cases h
  · injection h0 with h0
    injection h0 with h0
    subst h0
    refine RowA.mk (cur := cur.setIfInBounds k v) (heap_setCell_same w g k cur e v h1) (by simp; exact h2) h3 (by simp; exact h4) ?_
    rw [Array.toList_setIfInBounds, List.length_set, List.take_set, h5]
/-- A store into a block of another kind. -/
theorem RowA.far {w : World} {e T : TypeId} {A : Option Addr} {c r k : Nat} {xs vs : List Value} (h : RowA w e A c xs) (hr : Arr w r T vs) (hne : T ≠ e) (v : Value) : RowA (w.setCell ⟨r, k, none⟩ v) e A c xs := by
  refine h.same (fun a ha => Below.heap_setCell _ _ _ _ (fun e' => ?_))
  rcases h.parts with ⟨rfl, rfl, rfl⟩ | ⟨g, cur, rfl, h1, h2, h3, h4, h5⟩
  · cases ha
  · injection ha with ha
    subst ha
    have e' : g = r := e'
    subst e'
    unfold Arr at hr
    rw [h1] at hr
    injection hr with hr
    injection hr with _ hr
    exact hne hr.symm
/-- A store into another block. -/
theorem RowA.other {w : World} {e : TypeId} {A : Option Addr} {c r k : Nat} {xs : List Value} (h : RowA w e A c xs) (hne : ∀ a, A = some a → a.block ≠ r) (v : Value) : RowA (w.setCell ⟨r, k, none⟩ v) e A c xs :=
  h.same (fun a ha => Below.heap_setCell _ _ _ _ (hne a ha))
/-- Two rows of unlike kinds lie apart. -/
theorem RowA.apart {w : World} {e e' : TypeId} {A A' : Option Addr} {c c' : Nat} {xs xs' : List Value} (h : RowA w e A c xs) (h' : RowA w e' A' c' xs') (hne : e ≠ e') (a a' : Addr) (ha : A = some a) (ha' : A' = some a') : a.block ≠ a'.block := by
  rcases h.parts with ⟨rfl, rfl, rfl⟩ | ⟨g, cur, rfl, h1, h2, h3, h4, h5⟩
  · cases ha
  rcases h'.parts with ⟨rfl, rfl, rfl⟩ | ⟨g', cur', rfl, h1', h2', h3', h4', h5'⟩
  · cases ha'
  injection ha with ha
  injection ha' with ha'
  subst ha ha'
  intro e
  have e : g = g' := e
  subst e
  rw [h1] at h1'
  injection h1' with h1'
  injection h1' with _ h1'
  exact hne h1'
/-- Bytes of the thing's own: as a slice value. -/
def BlkAt (w : World) (F : Nat → Prop) (v : Value) (xs : List Int) : Prop := ∃ g c, v = .slice (some ⟨g, 0, none⟩) 128 c ∧ F g ∧ Own w 0 g c xs ∧ xs.length = 128
theorem BlkAt.same {w w' : World} {F F' : Nat → Prop} {v : Value} {xs : List Int} (h : BlkAt w F v xs) (k : ∀ g, F g → w'.heap[g]? = w.heap[g]?) (hF : ∀ g, F g → F' g) : BlkAt w' F' v xs := by
  obtain ⟨g, c, h1, h2, h3, h4⟩ := h
  refine ⟨g, c, h1, hF g h2, ?_, h4⟩
  refine ⟨⟨h3.1.1, ?_⟩, h3.2⟩
  rcases h3.1.2 with e | ⟨g', c', cur, e, e1, e2, e3⟩
  · exact Or.inl e
  · refine Or.inr ⟨g', c', cur, e, e1, ?_, e3⟩
    injection e with e
    injection e with e
    injection e with e
    subst e
    rw [k _ h2]
    exact e2
theorem Own.heap {w : World} {base g cap : Nat} {xs : List Int} (ho : Own w base g cap xs) : ∃ cur, w.heap[g]? = some (.cells cur 5 (0, 0)) := by
  rcases ho.1.2 with ⟨e, _⟩ | ⟨g', c', cur, e, e1, e2, e3⟩
  · cases e
  · injection e with e
    injection e with e
    injection e with e
    subst e
    exact ⟨cur, e2⟩
/-- A store into a block of another kind. -/
theorem BlkAt.far {w : World} {F : Nat → Prop} {T : TypeId} {r k : Nat} {vs : List Value} {v : Value} {xs : List Int} (h : BlkAt w F v xs) (hr : ∃ cur, w.heap[r]? = some (.cells cur T (0, 0))) (hne : T ≠ 5) (u : Value) : BlkAt (w.setCell ⟨r, k, none⟩ u) F v xs := by
  obtain ⟨g, c, h1, h2, h3, h4⟩ := h
  refine ⟨g, c, h1, h2, h3.far (fun e => ?_) u, h4⟩
  subst e
  obtain ⟨c1, e1⟩ := h3.heap
  obtain ⟨c2, e2⟩ := hr
  rw [e1] at e2
  injection e2 with e2
  injection e2 with _ e2
  exact hne e2.symm
def ivals (xs : List Nat) : List Value := xs.map (fun x : Nat => Value.int .i64 (x : Int))
theorem ivals_at (xs : List Nat) (k : Nat) (h : k < xs.length) : (ivals xs)[k]? = some (.int .i64 ((xs.getD k 0 : Nat) : Int)) := by
  unfold ivals; rw [List.getElem?_map, List.getElem?_eq_getElem h, List.getD_eq_getElem?_getD, List.getElem?_eq_getElem h]; rfl

/-- A row that the call itself made, from block base on. -/
def RowO (w : World) (base : Nat) (e : TypeId) (A : Option Addr) (c : Nat) (xs : List Value) : Prop := w.ownsRow base e 1 (.slice A xs.length c) xs.length xs
theorem RowO.row {w : World} {base : Nat} {e : TypeId} {A : Option Addr} {c : Nat} {xs : List Value} (h : RowO w base e A c xs) : RowA w e A c xs := by
  refine ⟨h.1, ?_⟩
  rcases h.2 with h2 | ⟨g, cap, cur, h1, h2, h3⟩
  · exact Or.inl h2
  · exact Or.inr ⟨g, cap, cur, h1, Nat.zero_le _, h3⟩
theorem RowO.ge {w : World} {base : Nat} {e : TypeId} {A : Option Addr} {c : Nat} {xs : List Value} (h : RowO w base e A c xs) (a : Addr) (ha : A = some a) : base ≤ a.block ∧ a.block < w.heap.size := by
  have := h.row.lt a ha
  rcases h.2 with ⟨h2, _⟩ | ⟨g, cap, cur, h1, h2, h3⟩
  · injection h2 with h2; rw [h2] at ha; cases ha
  · injection h1 with h1
    rw [h1] at ha
    injection ha with ha
    subst ha
    exact ⟨h2, this⟩
theorem RowO.of {w : World} {base : Nat} {e : TypeId} {A : Option Addr} {c : Nat} {xs : List Value} (h : RowA w e A c xs) (k : ∀ a, A = some a → base ≤ a.block) : RowO w base e A c xs := by
  refine ⟨h.1, ?_⟩
  rcases h.2 with h2 | ⟨g, cap, cur, h1, h2, h3⟩
  · exact Or.inl h2
  · injection h1 with h1 h4 h5
    exact Or.inr ⟨g, cap, cur, by rw [h1, h5], k ⟨g, 0, none⟩ h1, h3⟩
theorem RowO.same {w w' : World} {base : Nat} {e : TypeId} {A : Option Addr} {c : Nat} {xs : List Value} (h : RowO w base e A c xs) (k : ∀ a, A = some a → w'.heap[a.block]? = w.heap[a.block]?) : RowO w' base e A c xs :=
  RowO.of (h.row.same k) (fun a ha => (h.ge a ha).1)
/-- The empty list that a call writes out. -/
theorem RowO.empty (w : World) (e : TypeId) (base : Nat) (hb : base ≤ w.heap.size) : RowO (w.alloc (.cells #[] e)) base e (some ⟨w.heap.size, 0, none⟩) 0 [] :=
  RowO.of (RowA.mk (cur := #[]) (heap_alloc_new w _) (Nat.le_refl _) (Nat.zero_le _) rfl rfl) (fun a ha => by injection ha with ha; subst ha; exact hb)
/-- What an append reads. -/
def Src (w : World) (A : Option Addr) (c : Nat) (xs : List Value) : Prop := (A = none → xs = [] ∧ c = 0) ∧ ∀ ad, A = some ad → ∀ (j : Nat) (u : Value), xs[j]? = some u → w.cell? (ad.add j) = some u
theorem add_zero' (g j : Nat) : (⟨g, 0, none⟩ : Addr).add j = ⟨g, j, none⟩ := by
  unfold Addr.add; by_cases h0 : j = 0
  · subst h0; rfl
  · simp [h0]
theorem RowA.src {w : World} {e : TypeId} {A : Option Addr} {c : Nat} {xs : List Value} (h : RowA w e A c xs) : Src w A c xs := by
  refine ⟨fun ha => ?_, fun ad ha j u hu => ?_⟩
  · rcases h.parts with ⟨_, h1, h2⟩ | ⟨g, cur, h1, _⟩
    · exact ⟨h2, h1⟩
    · rw [ha] at h1; cases h1
  · have hj : j < xs.length := by
      rcases Nat.lt_or_ge j xs.length with e | e
      · exact e
      · rw [List.getElem?_eq_none e] at hu; cases hu
    obtain ⟨g, h1, h2⟩ := h.at (by omega)
    rw [h1] at ha
    injection ha with ha
    subst ha
    rw [add_zero', (h2 j).2 hj, hu]
/-- One value written out in a new block. -/
theorem Src.one (w : World) (e : TypeId) (v : Value) (m : Nat × Nat) (c : Nat) : Src (w.alloc (.cells #[v] e m)) (some ⟨w.heap.size, 0, none⟩) c [v] := by
  refine ⟨fun ha => (by cases ha), fun ad ha j u hu => ?_⟩
  injection ha with ha
  subst ha
  rw [add_zero', cell_of_row _ _ j _ _ _ (heap_alloc_new w _), ← hu]
  simp
theorem app_row (w : World) {ops : Array Oper} {rs : List Oper} {o : Oper} {a : Act} {Q : Exit → Act → World → Prop} (hgd : o.guard = none)
    (s x : Operand) (t e : TypeId) (ho : o.op = .call { callee := .builtin .append, args := #[s, x], argTypes := #[t, t] }) (hu : Try.prog.underlying t = some (.slice e))
    (z : Value) (nb : Nat) (hinf : (Try.prog.info? e).map (fun i => (i.zero, i.size, i.bytes)) = some (some z, 1, nb)) (hzc : z.cells.size = 1) (hnb : nb ≤ 1000)
    (base : Nat) (A : Option Addr) (c k : Nat) (ys : List Value) (hk : ys.length = k) (hs : a.eval s = .slice A k c) (hown : RowO w base e A c ys)
    (A' : Option Addr) (m c' : Nat) (xs : List Value) (hm : xs.length = m) (hx : a.eval x = .slice A' m c') (hsrc : Src w A' c' xs) (h1 : ∀ u, u ∈ xs → u.oneCell' = true) (hl : k + m ≤ 1000000000) (hA : xs = [] → A ≠ none) (hbase : base ≤ w.heap.size)
    (h : ∀ A'' c'' w', RowO w' base e A'' c'' (ys ++ xs) → w.grownBy w' (Value.slice A k c).ownBlock → A'' ≠ none → wpList Try.prog ops Q rs (a.put o.dst (.slice A'' (k + m) c'')) w') :
    wpList Try.prog ops Q (o :: rs) a w := by
  subst hk hm
  obtain ⟨i0, hi, hz0, hz1, hz2⟩ := info_parts hinf
  rcases Nat.eq_zero_or_pos xs.length with h0 | h0
  · obtain rfl : xs = [] := List.eq_nil_of_length_eq_zero h0
    rcases hown.row.parts with ⟨e1, _⟩ | ⟨g, cur, e1, e2, e3, e4, e5, e6⟩
    · exact absurd e1 (hA rfl)
    subst e1
    refine wpList_append_fits_any w hgd s x t ho base e i0 1 hu hi hz1 g ys.length c ys hs hown A' 0 c' [] hx rfl (fun e => ⟨rfl, (hsrc.1 e).2⟩) (fun _ _ j u hu => by simp at hu) (fun u hu => by simp at hu) (by omega) ?_
    intro w' k1 k2
    refine h (some ⟨g, 0, none⟩) c w' ?_ k2 (fun e => by cases e)
    rw [List.append_nil]
    rw [Nat.add_zero, List.append_nil] at k1
    exact k1
  · cases A' with
    | none =>
      have := (hsrc.1 rfl).1
      subst this
      simp at h0
    | some ad =>
      refine wpList_append_own w hgd s x t ho base e i0 z 1 nb hu hi hz0 hz1 hz2 hzc (by decide) _ ys.length ys hs hown ad xs.length c' xs hx (by rw [Nat.mul_one]) (hsrc.2 ad rfl) h1 (by unfold maxLen; omega) ?_ hbase ?_
      · have := Nat.mul_le_mul hl hnb
        omega
      · intro v' w' k1 k2 k3
        obtain ⟨g', cap', hv, _, _⟩ := k1.form (by omega)
        subst hv
        refine h (some ⟨g', 0, none⟩) cap' w' ?_ k2 (fun e => by cases e)
        unfold RowO
        rw [List.length_append]
        exact k1
end Go.Proofs.Ytjjkddahfmkhoaa

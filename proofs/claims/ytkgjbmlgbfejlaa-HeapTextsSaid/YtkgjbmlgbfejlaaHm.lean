/-
  Things with rows of things behind them, in memory: rows of such, forests, what appends and stores leave of them.
-/
import Derived.Test.YtkgjbmlgbfejlaaKeep
import Derived.Test.YtkgjbmlgbfejlaaWArr
import Derived.Deep.AppendSrc
import Derived.Deep.MidRow
import Derived.Deep.Upon
namespace Go.Proofs.Ytkgjbmlgbfejlaa
set_option linter.unusedVariables false
set_option linter.unusedSimpArgs false
open Go.RowKit

/-- A kind of things: the type of a thing with its row, the type of such rows, cells, the order's key. -/
structure El (α : Type) where
  T : TypeId
  S : TypeId
  z : Nat
  val : α → List Value
  key : α → Int
/-- A thing, and the slice behind it. -/
structure En (α : Type) where
  x : α
  A : Option Addr
  n : Nat
  c : Nat
variable {α : Type}
/-- Its cells. -/
def En.v (K : El α) (e : En α) : List Value := K.val e.x ++ [.slice e.A e.n e.c]
/-- What the program says of the kind. -/
structure ElOk (K : El α) : Prop where
  len : ∀ x, (K.val x).length = K.z
  one : ∀ x u, u ∈ K.val x → u.oneCell' = true
  under : Try.prog.underlying K.S = some (.slice K.T)
  info : ∃ (i : TypeInfo) (z0 : Value), Try.prog.info? K.T = some i ∧ i.zero = some z0 ∧ i.size = K.z + 1 ∧ i.bytes ≤ 1000 ∧ z0.cells.size = K.z + 1 ∧ ∀ u, u ∈ z0.cells.toList → u.oneCell' = true
theorem En.len {K : El α} (ok : ElOk K) (e : En α) : (En.v K e).length = K.z + 1 := by unfold En.v; rw [List.length_append, ok.len]; rfl
theorem En.one {K : El α} (ok : ElOk K) (e : En α) (u : Value) (h : u ∈ En.v K e) : u.oneCell' = true := by
  unfold En.v at h
  rcases List.mem_append.1 h with h | h
  · exact ok.one _ _ h
  · rw [List.mem_singleton.1 h]; rfl
/-- The slice at A, of n things and capacity c, holds l. -/
structure Vw (K : El α) (w : World) (A : Option Addr) (n c : Nat) (l : List (En α)) : Prop where
  len : l.length = n
  lie : (A = none ∧ n = 0 ∧ c = 0) ∨ ∃ g o cur, A = some ⟨g, o, none⟩ ∧ w.heap[g]? = some (.cells cur K.T (0, 0)) ∧ n ≤ c ∧ c ≤ maxLen ∧ o + c * (K.z + 1) ≤ cur.size ∧ ∀ (i : Nat) (e : En α), l[i]? = some e → ∀ (j : Nat) (u : Value), (En.v K e)[j]? = some u → cur[o + i * (K.z + 1) + j]? = some u
/-- The block of an address. -/
def blk (A : Option Addr) : List Nat := match A with
  | none => []
  | some a => [a.block]
theorem Vw.nil (K : El α) (w : World) : Vw K w none 0 0 [] := ⟨rfl, Or.inl ⟨rfl, rfl, rfl⟩⟩
theorem Vw.same {K : El α} {w w' : World} {A : Option Addr} {n c : Nat} {l : List (En α)} (h : Vw K w A n c l) (k : ∀ b, b ∈ blk A → w'.heap[b]? = w.heap[b]?) : Vw K w' A n c l := by
  refine ⟨h.len, ?_⟩
  rcases h.lie with h0 | ⟨g, o, cur, rfl, h1, h2⟩
  · exact Or.inl h0
  · exact Or.inr ⟨g, o, cur, rfl, by rw [k g (by simp [blk])]; exact h1, h2⟩
theorem Vw.kind {K : El α} {w : World} {A : Option Addr} {n c : Nat} {l : List (En α)} (h : Vw K w A n c l) (b : Nat) (hb : b ∈ blk A) : ∃ cur, w.heap[b]? = some (.cells cur K.T (0, 0)) := by
  rcases h.lie with ⟨rfl, _⟩ | ⟨g, o, cur, rfl, h1, h2⟩
  · cases hb
  · simp [blk] at hb; subst hb; exact ⟨cur, h1⟩
theorem heap_lt {w : World} {b : Nat} {o : Obj} (h : w.heap[b]? = some o) : b < w.heap.size := by
  rcases Nat.lt_or_ge b w.heap.size with e | e
  · exact e
  · rw [Array.getElem?_eq_none (by exact e)] at h; cases h
theorem Vw.lt {K : El α} {w : World} {A : Option Addr} {n c : Nat} {l : List (En α)} (h : Vw K w A n c l) (b : Nat) (hb : b ∈ blk A) : b < w.heap.size := by
  obtain ⟨cur, h1⟩ := h.kind b hb; exact heap_lt h1
theorem Vw.cap {K : El α} {w : World} {A : Option Addr} {n c : Nat} {l : List (En α)} (h : Vw K w A n c l) : n ≤ c ∧ c ≤ maxLen := by
  rcases h.lie with ⟨_, rfl, rfl⟩ | ⟨g, o, cur, rfl, h1, h2, h3, _⟩
  · exact ⟨Nat.le_refl _, Nat.zero_le _⟩
  · exact ⟨h2, h3⟩
theorem Vw.below {K : El α} {w w' : World} {A : Option Addr} {n c : Nat} {l : List (En α)} (h : Vw K w A n c l) (b : Below w.heap.size w w') : Vw K w' A n c l := h.same (fun k hk => b.block k (h.lt k hk))
/-- Where an element's cells lie. -/
theorem Vw.at {K : El α} {w : World} {A : Option Addr} {n c i : Nat} {l : List (En α)} {e : En α} (h : Vw K w A n c l) (he : l[i]? = some e) : ∃ g o, A = some ⟨g, o, none⟩ ∧ g < w.heap.size ∧ w.rangeAt g (o + i * (K.z + 1)) (En.v K e) ∧ (∀ k, w.frozen? ⟨g, k, none⟩ = false) := by
  have hi : i < n := by
    rw [← h.len]
    rcases Nat.lt_or_ge i l.length with q | q
    · exact q
    · rw [List.getElem?_eq_none q] at he; cases he
  rcases h.lie with ⟨_, h0, _⟩ | ⟨g, o, cur, rfl, h1, h2, h3, h4, h5⟩
  · omega
  · refine ⟨g, o, rfl, heap_lt h1, fun j u hu => ?_, fun k => frozen_of_row w g k cur _ h1⟩
    rw [cell_of_row w g _ cur _ (0, 0) h1]
    exact h5 i e he j u hu
/-- The first ones. -/
theorem Vw.take {K : El α} {w : World} {A : Option Addr} {n c : Nat} {l : List (En α)} (h : Vw K w A n c l) (k : Nat) (hk : k ≤ n) : Vw K w A k c (l.take k) := by
  refine ⟨by rw [List.length_take, h.len]; omega, ?_⟩
  rcases h.lie with ⟨h0, h1, h2⟩ | ⟨g, o, cur, rfl, h1, h2, h3, h4, h5⟩
  · exact Or.inl ⟨h0, by omega, h2⟩
  · refine Or.inr ⟨g, o, cur, rfl, h1, by omega, h3, h4, fun i e he => h5 i e ?_⟩
    rw [List.getElem?_take] at he
    split at he
    · exact he
    · cases he
/-- The last ones. -/
theorem Vw.drop {K : El α} {w : World} {g o n c : Nat} {l : List (En α)} (h : Vw K w (some ⟨g, o, none⟩) n c l) (k : Nat) (hk : k ≤ n) : Vw K w (some ⟨g, o + k * (K.z + 1), none⟩) (n - k) (c - k) (l.drop k) := by
  refine ⟨by rw [List.length_drop, h.len], ?_⟩
  rcases h.lie with ⟨h0, _⟩ | ⟨g', o', cur, h0, h1, h2, h3, h4, h5⟩
  · cases h0
  · injection h0 with h0
    injection h0 with h0 h0'
    subst h0 h0'
    refine Or.inr ⟨_, _, cur, rfl, h1, by omega, by omega, ?_, fun i e he j u hu => ?_⟩
    · have e : o + k * (K.z + 1) + (c - k) * (K.z + 1) = o + c * (K.z + 1) := by
        rw [Nat.add_assoc, ← Nat.add_mul]
        congr 2
        omega
      rw [e]; exact h4
    · rw [List.getElem?_drop] at he
      have := h5 (k + i) e he j u hu
      rw [Nat.add_mul] at this
      rw [← this]
      congr 1
      omega
/-- Cells of the block outside the row may change. -/
theorem Vw.out {K : El α} {w w' : World} {g o n c : Nat} {l : List (En α)} {cur cur' : Array Value} (ok : ElOk K) (h : Vw K w (some ⟨g, o, none⟩) n c l) (h1 : w.heap[g]? = some (.cells cur K.T (0, 0))) (h2 : w'.heap[g]? = some (.cells cur' K.T (0, 0))) (hs : cur'.size = cur.size) (hk : ∀ k, o ≤ k → k < o + n * (K.z + 1) → cur'[k]? = cur[k]?) : Vw K w' (some ⟨g, o, none⟩) n c l := by
  refine ⟨h.len, ?_⟩
  rcases h.lie with ⟨h0, _⟩ | ⟨g', o', cu, h0, q1, q2, q3, q4, q5⟩
  · cases h0
  · injection h0 with h0
    injection h0 with h0 h0'
    subst h0 h0'
    rw [h1] at q1
    injection q1 with q1
    injection q1 with q1
    subst q1
    refine Or.inr ⟨_, _, cur', rfl, h2, q2, q3, by rw [hs]; exact q4, fun i e he j u hu => ?_⟩
    have hi : i < n := by
      rw [← h.len]
      rcases Nat.lt_or_ge i l.length with q | q
      · exact q
      · rw [List.getElem?_eq_none q] at he; cases he
    have hj : j < K.z + 1 := by
      rw [← En.len ok e]
      exact (List.getElem?_eq_some_iff.1 hu).1
    have hm : (i + 1) * (K.z + 1) ≤ n * (K.z + 1) := Nat.mul_le_mul_right _ hi
    rw [Nat.add_mul] at hm
    rw [hk _ (by omega) (by omega)]
    exact q5 i e he j u hu
/-- The block behind a run of stores. -/
theorem setCells_row (g : Nat) (T : TypeId) : ∀ (vs : List Value) (o : Nat) (w : World) (cur : Array Value), w.heap[g]? = some (.cells cur T (0, 0)) → o + vs.length ≤ cur.size →
    ∃ cur', (w.setCells g o vs).heap[g]? = some (.cells cur' T (0, 0)) ∧ cur'.size = cur.size ∧ (∀ k, k < o ∨ o + vs.length ≤ k → cur'[k]? = cur[k]?) ∧ ∀ j u, vs[j]? = some u → cur'[o + j]? = some u
  | [], o, w, cur, h, _ => ⟨cur, h, rfl, fun _ _ => rfl, fun j u hu => by simp at hu⟩
  | v :: r, o, w, cur, h, hl => by
    have hl' : o + (r.length + 1) ≤ cur.size := hl
    obtain ⟨cur', h1, h2, h3, h4⟩ := setCells_row g T r (o + 1) (w.setCell ⟨g, o, none⟩ v) (cur.setIfInBounds o v) (heap_setCell_same w g o cur T v h) (by rw [Array.size_setIfInBounds]; omega)
    refine ⟨cur', h1, by rw [h2, Array.size_setIfInBounds], fun k hk => ?_, fun j u hu => ?_⟩
    · have hk' : k < o ∨ o + (r.length + 1) ≤ k := hk
      rw [h3 k (by omega), Array.getElem?_setIfInBounds_ne (by omega)]
    · cases j with
      | zero =>
        have e : v = u := by simpa using hu
        subst e
        rw [Nat.add_zero, h3 o (by omega), Array.getElem?_setIfInBounds_self_of_lt (by omega)]
      | succ j =>
        rw [show o + (j + 1) = o + 1 + j by omega]
        exact h4 j u (by simpa using hu)
theorem setCells_heap (g k : Nat) (h : k ≠ g) : ∀ (vs : List Value) (o : Nat) (w : World), (w.setCells g o vs).heap[k]? = w.heap[k]?
  | [], _, _ => rfl
  | v :: r, o, w => by rw [World.setCells, setCells_heap g k h r (o + 1), heap_setCell_other w ⟨g, o, none⟩ k v h]
theorem setCells_size (g : Nat) : ∀ (vs : List Value) (o : Nat) (w : World), (w.setCells g o vs).heap.size = w.heap.size
  | [], _, _ => rfl
  | v :: r, o, w => by rw [World.setCells, setCells_size g r (o + 1)]; simp [World.setCell]
theorem setCells_keep (g : Nat) (vs : List Value) (o : Nat) (w : World) : Keep (· ∈ [g]) w (w.setCells g o vs) := by
  refine ⟨?_, ?_, ?_, ?_, fun k _ hk => setCells_heap g k (fun e => hk (by simp [e])) vs o w⟩
  · exact World.os_setCells w g o vs
  · induction vs generalizing o w with
    | nil => rfl
    | cons v r ih => rw [World.setCells, ih]; rfl
  · exact World.output_setCells w g o vs
  · rw [setCells_size]; exact Nat.le_refl _
/-- Cells of A's block outside lo cells behind A's head are as they were. -/
def Out (K : El α) (w w' : World) (A : Option Addr) (m : Nat) : Prop := ∀ g o, A = some ⟨g, o, none⟩ → ∃ cur cur', w.heap[g]? = some (.cells cur K.T (0, 0)) ∧ w'.heap[g]? = some (.cells cur' K.T (0, 0)) ∧ cur'.size = cur.size ∧ ∀ k, k < o ∨ o + m * (K.z + 1) ≤ k → cur'[k]? = cur[k]?
theorem Out.of_same {K : El α} {w w' : World} {A : Option Addr} {n c m : Nat} {l : List (En α)} (h : Vw K w A n c l) (k : ∀ b, b ∈ blk A → w'.heap[b]? = w.heap[b]?) : Out K w w' A m := by
  rintro g o rfl
  obtain ⟨cur, h1⟩ := h.kind g (by simp [blk])
  exact ⟨cur, cur, h1, by rw [k g (by simp [blk])]; exact h1, rfl, fun _ _ => rfl⟩
theorem Out.trans {K : El α} {w w' w'' : World} {A : Option Addr} {m : Nat} (h : Out K w w' A m) (h' : Out K w' w'' A m) : Out K w w'' A m := by
  intro g o e
  obtain ⟨c1, c2, a1, a2, a3, a4⟩ := h g o e
  obtain ⟨c3, c4, b1, b2, b3, b4⟩ := h' g o e
  rw [a2] at b1
  injection b1 with b1
  injection b1 with b1
  subst b1
  exact ⟨c1, c4, a1, b2, b3.trans a3, fun k hk => (b4 k hk).trans (a4 k hk)⟩
theorem Out.mono {K : El α} {w w' : World} {A : Option Addr} {m m' : Nat} (h : Out K w w' A m) (hm : m ≤ m') : Out K w w' A m' := by
  intro g o e
  obtain ⟨c1, c2, a1, a2, a3, a4⟩ := h g o e
  have := Nat.mul_le_mul_right (K.z + 1) hm
  exact ⟨c1, c2, a1, a2, a3, fun k hk => a4 k (by omega)⟩
/-- A thing is laid at place i of the row. -/
theorem Vw.put {K : El α} {w : World} {g o n c i : Nat} {l : List (En α)} (ok : ElOk K) (h : Vw K w (some ⟨g, o, none⟩) n c l) (hi : i ≤ n) (hc : i < c) (e : En α) :
    Vw K (w.setCells g (o + i * (K.z + 1)) (En.v K e)) (some ⟨g, o, none⟩) (max n (i + 1)) c (l.take i ++ e :: l.drop (i + 1)) ∧ Out K w (w.setCells g (o + i * (K.z + 1)) (En.v K e)) (some ⟨g, o, none⟩) (i + 1) := by
  have hl := h.len
  rcases h.lie with ⟨h0, _⟩ | ⟨g', o', cur, h0, h1, h2, h3, h4, h5⟩
  · cases h0
  injection h0 with h0
  injection h0 with h0 h0'
  subst h0 h0'
  have hm : (i + 1) * (K.z + 1) ≤ c * (K.z + 1) := Nat.mul_le_mul_right _ hc
  rw [Nat.add_mul, Nat.one_mul] at hm
  obtain ⟨cur', q1, q2, q3, q4⟩ := setCells_row g K.T (En.v K e) (o + i * (K.z + 1)) w cur h1 (by rw [En.len ok]; omega)
  rw [En.len ok] at q3
  refine ⟨⟨?_, Or.inr ⟨g, o, cur', rfl, q1, by omega, h3, by rw [q2]; exact h4, fun k e' he j u hu => ?_⟩⟩, fun g2 o2 e2 => ?_⟩
  · rw [List.length_append, List.length_take, List.length_cons, List.length_drop, hl]; omega
  · have hj : j < K.z + 1 := by
      rw [← En.len ok e']
      exact (List.getElem?_eq_some_iff.1 hu).1
    by_cases hk : k = i
    · subst hk
      rw [List.getElem?_append_right (by rw [List.length_take, hl]; omega), List.length_take, hl, Nat.min_eq_left hi, Nat.sub_self] at he
      have he : e = e' := by simpa using he
      subst he
      exact q4 j u hu
    · have hek : l[k]? = some e' := by
        rcases Nat.lt_or_ge k i with hki | hki
        · rw [List.getElem?_append_left (by rw [List.length_take, hl]; omega), List.getElem?_take, if_pos hki] at he
          exact he
        · rw [List.getElem?_append_right (by rw [List.length_take, hl]; omega), List.length_take, hl, Nat.min_eq_left hi] at he
          obtain ⟨d, hd⟩ : ∃ d, k - i = d + 1 := ⟨k - i - 1, by omega⟩
          rw [hd, List.getElem?_cons_succ, List.getElem?_drop] at he
          rw [show k = i + 1 + d by omega]
          exact he
      have hout : o + k * (K.z + 1) + j < o + i * (K.z + 1) ∨ o + i * (K.z + 1) + (K.z + 1) ≤ o + k * (K.z + 1) + j := by
        rcases Nat.lt_or_ge k i with hki | hki
        · left
          have : (k + 1) * (K.z + 1) ≤ i * (K.z + 1) := Nat.mul_le_mul_right _ hki
          rw [Nat.add_mul, Nat.one_mul] at this
          omega
        · right
          have : (i + 1) * (K.z + 1) ≤ k * (K.z + 1) := Nat.mul_le_mul_right _ (by omega)
          rw [Nat.add_mul, Nat.one_mul] at this
          omega
      rw [q3 _ hout]
      exact h5 k e' hek j u hu
  · injection e2 with e2
    injection e2 with e2 e3
    subst e2 e3
    refine ⟨cur, cur', h1, q1, q2, fun k hk => q3 k ?_⟩
    rw [Nat.add_mul, Nat.one_mul] at hk
    omega
/-- The slice behind the thing at place i turns. -/
theorem Vw.turn {K : El α} {w : World} {g o n c i : Nat} {l : List (En α)} {e : En α} (ok : ElOk K) (h : Vw K w (some ⟨g, o, none⟩) n c l) (he : l[i]? = some e) (A' : Option Addr) (n' c' : Nat) :
    Vw K (w.setCell ⟨g, o + i * (K.z + 1) + K.z, none⟩ (.slice A' n' c')) (some ⟨g, o, none⟩) n c (l.set i ⟨e.x, A', n', c'⟩) ∧ Out K w (w.setCell ⟨g, o + i * (K.z + 1) + K.z, none⟩ (.slice A' n' c')) (some ⟨g, o, none⟩) n := by
  have hl := h.len
  have hi : i < n := by
    rw [← hl]
    rcases Nat.lt_or_ge i l.length with q | q
    · exact q
    · rw [List.getElem?_eq_none q] at he; cases he
  rcases h.lie with ⟨h0, _⟩ | ⟨g', o', cur, h0, h1, h2, h3, h4, h5⟩
  · cases h0
  injection h0 with h0
  injection h0 with h0 h0'
  subst h0 h0'
  have q1 := heap_setCell_same w g (o + i * (K.z + 1) + K.z) cur K.T (.slice A' n' c') h1
  have hm : (i + 1) * (K.z + 1) ≤ n * (K.z + 1) := Nat.mul_le_mul_right _ hi
  have hm' : n * (K.z + 1) ≤ c * (K.z + 1) := Nat.mul_le_mul_right _ h2
  rw [Nat.add_mul, Nat.one_mul] at hm
  refine ⟨⟨by rw [List.length_set]; exact hl, Or.inr ⟨g, o, _, rfl, q1, h2, h3, by rw [Array.size_setIfInBounds]; exact h4, fun k e' hk j u hu => ?_⟩⟩, fun g2 o2 e2 => ?_⟩
  · have hj : j < K.z + 1 := by
      rw [← En.len ok e']
      exact (List.getElem?_eq_some_iff.1 hu).1
    rw [List.getElem?_set] at hk
    by_cases hki : i = k
    · subst hki
      rw [if_pos rfl, if_pos (by omega)] at hk
      have hk : (⟨e.x, A', n', c'⟩ : En α) = e' := by simpa using hk
      subst hk
      by_cases hz : j = K.z
      · subst hz
        rw [Array.getElem?_setIfInBounds_self_of_lt (by omega)]
        unfold En.v at hu
        rw [List.getElem?_append_right (by rw [ok.len]; exact Nat.le_refl _), ok.len, Nat.sub_self] at hu
        simpa using hu
      · rw [Array.getElem?_setIfInBounds_ne (by omega)]
        refine h5 i e he j u ?_
        unfold En.v at hu ⊢
        rw [List.getElem?_append_left (by rw [ok.len]; omega)] at hu ⊢
        exact hu
    · rw [if_neg hki] at hk
      rw [Array.getElem?_setIfInBounds_ne ?_]
      · exact h5 k e' hk j u hu
      · rcases Nat.lt_or_ge k i with q | q
        · have : (k + 1) * (K.z + 1) ≤ i * (K.z + 1) := Nat.mul_le_mul_right _ q
          rw [Nat.add_mul, Nat.one_mul] at this
          omega
        · have : (i + 1) * (K.z + 1) ≤ k * (K.z + 1) := Nat.mul_le_mul_right _ (by omega)
          rw [Nat.add_mul, Nat.one_mul] at this
          omega
  · injection e2 with e2
    injection e2 with e2 e3
    subst e2 e3
    exact ⟨cur, _, h1, q1, Array.size_setIfInBounds, fun k hk => Array.getElem?_setIfInBounds_ne (by omega)⟩
/-- The row that an append leaves. -/
def Grew (K : El α) (w w' : World) (A : Option Addr) (n c : Nat) (A' : Option Addr) (c' : Nat) : Prop :=
  Keep (· ∈ blk A) w w' ∧ Out K w w' A (n + 1) ∧ ((n + 1 ≤ c ∧ A' = A ∧ c' = c) ∨ (c < n + 1 ∧ ∃ g, A' = some ⟨g, 0, none⟩ ∧ w.heap.size ≤ g ∧ g < w'.heap.size ∧ Below w.heap.size w w'))
theorem Vw.olds {K : El α} {w : World} {A : Option Addr} {n c : Nat} {l : List (En α)} (ok : ElOk K) (h : Vw K w A n c l) : ∃ cs : List Value, cs = l.flatMap (En.v K) ∧ cs.length = n * (K.z + 1) ∧ (∀ (i : Nat) (e : En α), l[i]? = some e → ∀ (j : Nat) (u : Value), (En.v K e)[j]? = some u → cs[i * (K.z + 1) + j]? = some u) ∧ (Builtin.firstCells (K.z + 1) n (.slice A n c)).run Try.prog w = .ok cs.toArray w := by
  have hlen : ∀ l : List (En α), (l.flatMap (En.v K)).length = l.length * (K.z + 1) := by
    intro l
    induction l with
    | nil => simp
    | cons e r ih => rw [List.flatMap_cons, List.length_append, ih, En.len ok, List.length_cons, Nat.add_mul]; omega
  have hat : ∀ (l : List (En α)) (i : Nat) (e : En α), l[i]? = some e → ∀ (j : Nat) (u : Value), (En.v K e)[j]? = some u → (l.flatMap (En.v K))[i * (K.z + 1) + j]? = some u := by
    intro l
    induction l with
    | nil => intro i e he; simp at he
    | cons f r ih =>
      intro i e he j u hu
      cases i with
      | zero =>
        have he : f = e := by simpa using he
        subst he
        rw [List.flatMap_cons, Nat.zero_mul, Nat.zero_add, List.getElem?_append_left (List.getElem?_eq_some_iff.1 hu).1]
        exact hu
      | succ i =>
        rw [List.flatMap_cons, List.getElem?_append_right (by rw [En.len ok, Nat.add_mul]; omega), En.len ok]
        rw [show (i + 1) * (K.z + 1) + j - (K.z + 1) = i * (K.z + 1) + j by rw [Nat.add_mul]; omega]
        exact ih i e (by simpa using he) j u hu
  refine ⟨_, rfl, by rw [hlen, h.len], hat l, ?_⟩
  rcases h.lie with ⟨rfl, rfl, rfl⟩ | ⟨g, o, cur, rfl, h1, h2, h3, h4, h5⟩
  · have e : l = [] := List.eq_nil_of_length_eq_zero h.len
    subst e
    exact run_firstCells_none w _ _ _ _
  · refine run_firstCells_some w (K.z + 1) n ⟨g, o, none⟩ n c _ (by rw [hlen, h.len]) (fun j u hu => ?_)
    rw [Addr.add_mid, cell_of_row w g _ cur _ (0, 0) h1]
    have hj := (List.getElem?_eq_some_iff.1 hu).1
    rw [hlen, h.len] at hj
    have hpos : 0 < K.z + 1 := Nat.succ_pos _
    have hdiv : j / (K.z + 1) < n := (Nat.div_lt_iff_lt_mul hpos).2 hj
    have hmod := Nat.mod_lt j hpos
    have hdm : j / (K.z + 1) * (K.z + 1) + j % (K.z + 1) = j := by rw [Nat.mul_comm]; exact Nat.div_add_mod j (K.z + 1)
    obtain ⟨e, he⟩ : ∃ e, l[j / (K.z + 1)]? = some e := ⟨_, List.getElem?_eq_getElem (by rw [h.len]; exact hdiv)⟩
    obtain ⟨v, hv⟩ : ∃ v, (En.v K e)[j % (K.z + 1)]? = some v := ⟨_, List.getElem?_eq_getElem (by rw [En.len ok]; exact hmod)⟩
    have r1 := h5 _ _ he _ _ hv
    have r2 := hat l _ _ he _ _ hv
    rw [hdm] at r2
    rw [r2] at hu
    rw [Nat.add_assoc, hdm] at r1
    rw [r1, hu]
/-- One thing more. -/
theorem run_app {K : El α} (ok : ElOk K) (w : World) {A : Option Addr} {n c : Nat} {l : List (En α)} (h : Vw K w A n c l) (sb so sc : Nat) (e : En α) (hs : w.rangeAt sb so (En.v K e)) (hn : n ≤ 1000000) (ty : TypeId) :
    ∃ A' c' w', (Builtin.append_ #[K.S, K.S] ty #[.slice A n c, .slice (some ⟨sb, so, none⟩) 1 sc]).run Try.prog w = .ok (.slice A' (n + 1) c') w' ∧ Vw K w' A' (n + 1) c' (l ++ [e]) ∧ Grew K w w' A n c A' c' := by
  obtain ⟨i0, z0, hi, hz, hsz, hby, hzs, hzo⟩ := ok.info
  have hsrc : Src Try.prog (K.z + 1) K.S (.slice (some ⟨sb, so, none⟩) 1 sc) 1 (En.v K e) w := Src.ofSlice w ok.under ⟨sb, so, none⟩ 1 sc (En.v K e) (by rw [En.len ok, Nat.one_mul]) (fun j u hu => by rw [Addr.add_mid]; exact hs j u hu) (En.one ok e)
  rw [← hsz] at hsrc
  by_cases hroom : n + 1 ≤ c
  · rcases h.lie with ⟨rfl, rfl, rfl⟩ | ⟨g, o, cur, rfl, h1, h2, h3, h4, h5⟩
    · omega
    have hm : (n + 1) * (K.z + 1) ≤ c * (K.z + 1) := Nat.mul_le_mul_right _ hroom
    rw [Nat.add_mul, Nat.one_mul] at hm
    have hrun := run_append_room_src (P := Try.prog) w K.S K.S ty K.T i0 ok.under hi g o n c _ 1 (En.v K e) hsrc hroom (fun j hj => by
        rw [En.len ok] at hj
        rw [cell_of_row w g _ cur _ (0, 0) h1, hsz, Array.getElem?_eq_getElem (by omega)]
        rfl) (fun j hj => frozen_of_row w g _ cur _ h1)
    rw [hsz] at hrun
    obtain ⟨p1, p2⟩ := Vw.put ok h (Nat.le_refl n) (by omega) e
    refine ⟨_, _, _, hrun, ?_, ?_, p2, Or.inl ⟨hroom, rfl, rfl⟩⟩
    · rw [Nat.max_eq_right (by omega), List.take_of_length_le (by rw [h.len]; exact Nat.le_refl _), List.drop_of_length_le (by rw [h.len]; omega)] at p1
      exact p1
    · exact setCells_keep g _ _ w
  · obtain ⟨cs, hcs, hcl, hca, hcr⟩ := (h.below (Below.refl _ _).drew).olds ok
    have hfit : Builtin.nextslicecap (n + 1) c * i0.bytes ≤ 281474976710656 := growslice_fits (by omega) (by
      have := Nat.mul_le_mul (show n + 1 ≤ 1000001 by omega) hby
      omega)
    have hrun := run_append_grow_src (P := Try.prog) w K.S K.S ty K.T i0 z0 ok.under hi hz A n c cs (by rw [hsz]; exact hcr) _ 1 (En.v K e) hsrc (by omega) (by omega) hfit
    have hge := grownCap_ge w (n + 1) c K.T
    have hmx := grownCap_le_maxLen w (n + 1) c K.T (by unfold maxLen; omega)
    obtain ⟨G, hG⟩ : ∃ G, grownCap w (n + 1) c K.T = G := ⟨_, rfl⟩
    rw [hG] at hrun hge hmx
    have hb : Below w.heap.size w (w.drew.alloc (.cells ((cs ++ En.v K e).toArray ++ Builtin.zeroCells z0.cells (G - (n + 1))) K.T)) := (Below.refl _ _).drew.alloc (Nat.le_refl _) _
    refine ⟨_, _, _, hrun, ⟨by rw [List.length_append, h.len]; rfl, Or.inr ⟨w.heap.size, 0, _, rfl, heap_alloc_new w.drew _, hge, hmx, ?_, fun i f he j u hu => ?_⟩⟩, Keep.of_below hb, Out.of_same h (fun b hb' => hb.block b (h.lt b hb')), Or.inr ⟨by omega, w.heap.size, rfl, Nat.le_refl _, by simp, hb⟩⟩
    · rw [Array.size_append, List.size_toArray, List.length_append, hcl, En.len ok, size_zeroCells, hzs, Nat.zero_add]
      have e1 : n * (K.z + 1) + (K.z + 1) = (n + 1) * (K.z + 1) := by rw [Nat.add_mul]; omega
      rw [e1, ← Nat.add_mul]
      exact Nat.mul_le_mul_right _ (by omega)
    · have hju := (List.getElem?_eq_some_iff.1 hu).1
      rw [En.len ok] at hju
      rw [Nat.zero_add]
      have hin : i < n + 1 := by
        have := (List.getElem?_eq_some_iff.1 he).1
        rw [List.length_append, h.len] at this
        exact this
      have hm : (i + 1) * (K.z + 1) ≤ (n + 1) * (K.z + 1) := Nat.mul_le_mul_right _ hin
      rw [Nat.add_mul, Nat.one_mul, Nat.add_mul, Nat.one_mul] at hm
      rw [Array.getElem?_append_left (by rw [List.size_toArray, List.length_append, hcl, En.len ok]; omega), List.getElem?_toArray]
      by_cases hi' : i < n
      · rw [List.getElem?_append_left (by rw [h.len]; exact hi')] at he
        have hm2 : (i + 1) * (K.z + 1) ≤ n * (K.z + 1) := Nat.mul_le_mul_right _ hi'
        rw [Nat.add_mul, Nat.one_mul] at hm2
        rw [List.getElem?_append_left (by rw [hcl]; omega)]
        exact hca i f he j u hu
      · obtain rfl : i = n := by omega
        rw [List.getElem?_append_right (by rw [h.len]; exact Nat.le_refl _), h.len, Nat.sub_self] at he
        have he : e = f := by simpa using he
        subst he
        rw [List.getElem?_append_right (by rw [hcl]; omega), hcl, Nat.add_sub_cancel_left]
        exact hu
end Go.Proofs.Ytkgjbmlgbfejlaa

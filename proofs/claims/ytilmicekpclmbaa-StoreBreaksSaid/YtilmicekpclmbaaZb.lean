/-
  Small facts on memory: a struct of two fields in a block of its own, through calls that write nothing old, and through stores.
  A row of cells that a call made for itself: through calls that write nothing old, as a slice that reads, and through stores.
  An append of bytes that are read somewhere onto bytes of the call's own: the row behind it is the call's own again, and holds both.
  make([]byte, n): so many noughts of the call's own.
-/
import Derived.Test.YtilmicekpclmbaaProg
import Derived.WalkKit
import Derived.Test.YtilmicekpclmbaaZa
import Derived.Deep.AppendLies
import Derived.OwnWalk
namespace Go.Proofs.Ytilmicekpclmbaa
set_option linter.unusedVariables false
set_option linter.unusedSimpArgs false
open Go.RowKit

theorem bstep {w a b : World} (h : Below w.heap.size w a) (k : Below a.heap.size a b) : Below w.heap.size w b := h.trans (k.mono h.size)

/-- A struct of two fields in a block that may be written. -/
def Cell2 (w : World) (n : Nat) (v0 v1 : Value) : Prop :=
  n < w.heap.size ∧ w.cell? ⟨n, 0, none⟩ = some v0 ∧ w.cell? ⟨n, 1, none⟩ = some v1 ∧ w.frozen? ⟨n, 0, none⟩ = false ∧ w.frozen? ⟨n, 1, none⟩ = false
theorem Cell2.below {w w' : World} {n : Nat} {v0 v1 : Value} (h : Cell2 w n v0 v1) (hb : Below w.heap.size w w') : Cell2 w' n v0 v1 := by
  obtain ⟨h1, h2, h3, h4, h5⟩ := h
  exact ⟨Nat.lt_of_lt_of_le h1 hb.size, by rw [hb.cell (p := ⟨n, 0, none⟩) h1]; exact h2, by rw [hb.cell (p := ⟨n, 1, none⟩) h1]; exact h3, by rw [hb.frozen (p := ⟨n, 0, none⟩) h1]; exact h4, by rw [hb.frozen (p := ⟨n, 1, none⟩) h1]; exact h5⟩
theorem Cell2.drew {w : World} {n : Nat} {v0 v1 : Value} (h : Cell2 w n v0 v1) : Cell2 w.drew n v0 v1 := h
theorem Cell2.alloc {w : World} {n : Nat} {v0 v1 : Value} (h : Cell2 w n v0 v1) (o : Obj) : Cell2 (w.alloc o) n v0 v1 := h.below ((Below.refl _ _).alloc (Nat.le_refl _) _)
theorem Cell2.new (w : World) (v0 v1 : Value) (t : TypeId) : Cell2 (w.alloc (.cells #[v0, v1] t)) w.heap.size v0 v1 :=
  ⟨by simp, by simp [go_sem], by simp [go_sem], by simp, by simp⟩
theorem Cell2.set {w : World} {n : Nat} {v0 v1 : Value} (h : Cell2 w n v0 v1) (u0 u1 : Value) : Cell2 ((w.setCell ⟨n, 0, none⟩ u0).setCell ⟨n, 1, none⟩ u1) n u0 u1 := by
  obtain ⟨h1, h2, h3, h4, h5⟩ := h
  have e0 : (⟨n, 0, none⟩ : Addr) ≠ ⟨n, 1, none⟩ := by intro h; injection h with _ h; exact absurd h (by decide)
  have c1 : (w.setCell ⟨n, 0, none⟩ u0).cell? ⟨n, 1, none⟩ = some v1 := by rw [World.cell?_setCell_other _ _ _ _ e0]; exact h3
  refine ⟨by simpa [World.setCell] using h1, ?_, World.cell?_setCell_same _ _ _ c1, by simpa using h4, by simpa using h5⟩
  rw [World.cell?_setCell_other _ _ _ _ (Ne.symm e0)]
  exact World.cell?_setCell_same _ _ _ h2
theorem Cell2.far {w : World} {n m : Nat} {v0 v1 : Value} (h : Cell2 w n v0 v1) (hne : m ≠ n) (u0 u1 : Value) : Cell2 ((w.setCell ⟨m, 0, none⟩ u0).setCell ⟨m, 1, none⟩ u1) n v0 v1 := by
  obtain ⟨h1, h2, h3, h4, h5⟩ := h
  have e (i j : Nat) : (⟨m, i, none⟩ : Addr) ≠ ⟨n, j, none⟩ := by intro h; injection h with h; exact hne h
  refine ⟨by simpa [World.setCell] using h1, ?_, ?_, by simpa using h4, by simpa using h5⟩
  · rw [World.cell?_setCell_other _ _ _ _ (e 1 0), World.cell?_setCell_other _ _ _ _ (e 0 0)]; exact h2
  · rw [World.cell?_setCell_other _ _ _ _ (e 1 1), World.cell?_setCell_other _ _ _ _ (e 0 1)]; exact h3
theorem keepS {W W1 w' : World} {n : Nat} {v0 v1 : Value} (hb : Below W1.heap.size W1 w') (h : Below W.heap.size W W1 ∧ W1.cell? ⟨n, 0, none⟩ = some v0 ∧ W1.cell? ⟨n, 1, none⟩ = some v1) (hn : n < W.heap.size) : Below W.heap.size W w' ∧ w'.cell? ⟨n, 0, none⟩ = some v0 ∧ w'.cell? ⟨n, 1, none⟩ = some v1 := by
  obtain ⟨h1, h2, h3⟩ := h
  have := h1.size
  exact ⟨h1.trans (hb.mono this), by rw [hb.cell (p := ⟨n, 0, none⟩) (by show n < _; omega)]; exact h2, by rw [hb.cell (p := ⟨n, 1, none⟩) (by show n < _; omega)]; exact h3⟩
/-- A variable in a block of its own. -/
def Cell1 (w : World) (n : Nat) (v : Value) : Prop := n < w.heap.size ∧ w.cell? ⟨n, 0, none⟩ = some v
theorem Cell1.new (w : World) (v : Value) (t : TypeId) : Cell1 (w.alloc (.cells #[v] t)) w.heap.size v := ⟨by simp, by simp [go_sem]⟩
theorem Cell1.below {w w' : World} {n : Nat} {v : Value} (h : Cell1 w n v) (hb : Below w.heap.size w w') : Cell1 w' n v :=
  ⟨Nat.lt_of_lt_of_le h.1 hb.size, by rw [hb.cell (p := ⟨n, 0, none⟩) h.1]; exact h.2⟩
theorem Cell1.alloc {w : World} {n : Nat} {v : Value} (h : Cell1 w n v) (o : Obj) : Cell1 (w.alloc o) n v := h.below ((Below.refl _ _).alloc (Nat.le_refl _) _)
theorem Cell1.far {w : World} {n g k : Nat} {v : Value} (h : Cell1 w n v) (hne : g ≠ n) (u : Value) : Cell1 (w.setCell ⟨g, k, none⟩ u) n v :=
  ⟨by simpa [World.setCell] using h.1, by rw [World.cell?_setCell_other _ _ _ _ (fun e => hne (by injection e))]; exact h.2⟩
theorem keepT {W W1 w' : World} {n m : Nat} {v0 v1 : Value} (hb : Below W1.heap.size W1 w') (h : Below W.heap.size W W1 ∧ W1.cell? ⟨n, 0, none⟩ = some v0 ∧ W1.cell? ⟨m, 0, none⟩ = some v1) (hn : n < W.heap.size) (hm : m < W.heap.size) : Below W.heap.size W w' ∧ w'.cell? ⟨n, 0, none⟩ = some v0 ∧ w'.cell? ⟨m, 0, none⟩ = some v1 := by
  obtain ⟨h1, h2, h3⟩ := h
  have := h1.size
  exact ⟨h1.trans (hb.mono this), by rw [hb.cell (p := ⟨n, 0, none⟩) (by show n < _; omega)]; exact h2, by rw [hb.cell (p := ⟨m, 0, none⟩) (by show m < _; omega)]; exact h3⟩
end Go.Proofs.Ytilmicekpclmbaa
namespace Go.Proofs.Ytilmicekpclmbaa
set_option linter.unusedVariables false
set_option linter.unusedSimpArgs false
open Go.RowKit

theorem grown_below {w w' : World} (h : Below w.heap.size w w') (row : Option Nat) : w.grownBy w' row := ⟨h.os, h.tape, h.output, h.size, fun k hk _ => h.block k hk⟩
/-- Bytes as values. -/
def vals (xs : List Int) : List Value := xs.map (Value.int .u8)
theorem vals_length (xs : List Int) : (vals xs).length = xs.length := by unfold vals; rw [List.length_map]
theorem vals_at (xs : List Int) (k : Nat) (h : k < xs.length) : (vals xs)[k]? = some (.int .u8 (xs.getD k 0)) := by
  unfold vals; rw [List.getElem?_map, List.getElem?_eq_getElem h, List.getD_eq_getElem?_getD, List.getElem?_eq_getElem h]; rfl
/-- Bytes in a block of the call's own, from its first cell on. -/
def Own (w : World) (base g cap : Nat) (xs : List Int) : Prop :=
  w.ownsRow base 5 1 (.slice (some ⟨g, 0, none⟩) xs.length cap) xs.length (vals xs) ∧ ∀ k, k < xs.length → U8 (xs.getD k 0)
theorem Own.below {w w' : World} {base g cap : Nat} {xs : List Int} (h : Own w base g cap xs) (hb : Below w.heap.size w w') : Own w' base g cap xs := by
  refine ⟨h.1.kept (row := none) (grown_below hb _) ?_, h.2⟩
  exact Or.inr (fun h => by cases h)
theorem Own.drew {w : World} {base g cap : Nat} {xs : List Int} (h : Own w base g cap xs) : Own w.drew base g cap xs := ⟨h.1.drew, h.2⟩
theorem Own.alloc {w : World} {base g cap : Nat} {xs : List Int} (h : Own w base g cap xs) (o : Obj) : Own (w.alloc o) base g cap xs := ⟨h.1.alloc o, h.2⟩
theorem Own.lt {w : World} {base g cap : Nat} {xs : List Int} (h : Own w base g cap xs) : base ≤ g ∧ g < w.heap.size := h.1.lt g rfl
theorem Own.cell {w : World} {base g cap : Nat} {xs : List Int} (h : Own w base g cap xs) {k : Nat} (hk : k < xs.length) : w.cell? ⟨g, k, none⟩ = some (.int .u8 (xs.getD k 0)) := by
  have := h.1.cells (g := g) rfl k _ (vals_at xs k hk)
  have e0 : (⟨g, 0, none⟩ : Addr).add k = ⟨g, 0 + k, none⟩ := by
    unfold Addr.add; by_cases h0 : k = 0
    · subst h0; rfl
    · simp [h0]
  rw [e0, Nat.zero_add] at this
  exact this
theorem Own.reads {w : World} {base g cap : Nat} {xs : List Int} (h : Own w base g cap xs) : RdB w w.heap.size (some ⟨g, 0, none⟩) xs := fun k hk =>
  ⟨g, 0, rfl, h.lt.2, by rw [Nat.zero_add]; exact h.cell hk, h.2 k hk⟩
theorem Own.frozen {w : World} {base g cap : Nat} {xs : List Int} (h : Own w base g cap xs) (k : Nat) : w.frozen? ⟨g, k, none⟩ = false := h.1.frozenAt k
theorem vals_set (xs : List Int) (k : Nat) (x : Int) : (vals xs).set k (.int .u8 x) = vals (xs.set k x) := by unfold vals; rw [List.map_set]
theorem getD_set (xs : List Int) (k j : Nat) (x : Int) (hj : j < xs.length) : (xs.set k x).getD j 0 = if k = j then x else xs.getD j 0 := by
  rw [List.getD_eq_getElem?_getD, List.getElem?_set, List.getD_eq_getElem?_getD]
  by_cases h : k = j
  · subst h; simp [hj]
  · simp [h]
theorem Own.set {w : World} {base g cap : Nat} {xs : List Int} (h : Own w base g cap xs) (k : Nat) (x : Int) (hx : U8 x) : Own (w.setCell ⟨g, k, none⟩ (.int .u8 x)) base g cap (xs.set k x) := by
  refine ⟨?_, fun j hj => ?_⟩
  · have := (h.1.stored k (.int .u8 x)).1
    rw [vals_set] at this
    rw [List.length_set]
    exact this
  · rw [List.length_set] at hj
    rw [getD_set xs k j x hj]
    split
    · exact hx
    · exact h.2 j hj
theorem Own.cap {w : World} {base g cap : Nat} {xs : List Int} (h : Own w base g cap xs) : xs.length ≤ cap ∧ cap ≤ maxLen := by
  rcases h.1.2 with ⟨e, _⟩ | ⟨g', c', cur, e, _, _, h1, h2, _⟩
  · cases e
  · injection e with _ _ e
    subst e
    exact ⟨h1, h2⟩
/-- The empty slice that a call makes. -/
theorem Own.empty (w : World) (base : Nat) (hb : base ≤ w.heap.size) : Own (w.alloc (.cells #[] 5)) base w.heap.size 0 [] :=
  ⟨World.ownsRow_made w #[] 0 hb (by decide) rfl, fun k hk => absurd hk (by simp)⟩
/-- Memory behind an append onto one's own. -/
theorem below_grown {w0 w w' : World} {g : Nat} (hb : Below w0.heap.size w0 w) (hg : w.grownBy w' (some g)) (h : w0.heap.size ≤ g) : Below w0.heap.size w0 w' :=
  Below.grown hb hg hb.size (fun k hk => by injection hk with hk; omega)
/-- Another row of one's own stays, when one grows. -/
theorem Own.grown {w w' : World} {base g cap h : Nat} {xs : List Int} (ho : Own w base g cap xs) (hg : w.grownBy w' (some h)) (hne : g ≠ h) : Own w' base g cap xs :=
  ⟨ho.1.kept hg (Or.inr (fun e => hne (by injection e))), ho.2⟩
/-- Another row of one's own stays, when a cell elsewhere is written. -/
theorem Own.far {w : World} {base g cap h k : Nat} {xs : List Int} (ho : Own w base g cap xs) (hne : g ≠ h) (v : Value) : Own (w.setCell ⟨h, k, none⟩ v) base g cap xs :=
  ⟨ownsRow_setCell_other ho.1 (fun e => hne (by injection e)) v, ho.2⟩
/-- Two cells of one block, through a call that writes nothing old. -/
theorem keepO {W W1 w' : World} {n i j : Nat} {v0 v1 : Value} (hb : Below W1.heap.size W1 w') (h : Below W.heap.size W W1 ∧ W1.cell? ⟨n, i, none⟩ = some v0 ∧ W1.cell? ⟨n, j, none⟩ = some v1) (hn : n < W.heap.size) : Below W.heap.size W w' ∧ w'.cell? ⟨n, i, none⟩ = some v0 ∧ w'.cell? ⟨n, j, none⟩ = some v1 := by
  obtain ⟨h1, h2, h3⟩ := h
  have := h1.size
  exact ⟨h1.trans (hb.mono this), by rw [hb.cell (p := ⟨n, i, none⟩) (by show n < _; omega)]; exact h2, by rw [hb.cell (p := ⟨n, j, none⟩) (by show n < _; omega)]; exact h3⟩
theorem take_set_succ (us : List Int) (k : Nat) (v : Int) (h : k < us.length) : (us.set k v).take (k + 1) = us.take k ++ [v] := by
  rw [List.take_succ_eq_append_getElem (by rw [List.length_set]; exact h), List.take_set_of_le (Nat.le_refl _), List.getElem_set_self]
/-- Bytes written out, in a new block. -/
theorem RdB.lit (w : World) (cs : Array Value) (t : TypeId) (m : Nat × Nat) (xs : List Int) (h : cs.toList = vals xs) (hu : ∀ k, k < xs.length → U8 (xs.getD k 0)) : RdB (w.alloc (.cells cs t m)) (w.heap.size + 1) (some ⟨w.heap.size, 0, none⟩) xs := fun k hk => by
  refine ⟨w.heap.size, 0, rfl, by omega, ?_, hu k hk⟩
  rw [Nat.zero_add]
  have e : (w.alloc (.cells cs t m)).cell? ⟨w.heap.size, k, none⟩ = cs[k]? := cell_of_row _ _ _ _ _ _ (heap_alloc_new w _)
  rw [e, ← Array.getElem?_toList, h, vals_at xs k hk]
end Go.Proofs.Ytilmicekpclmbaa
namespace Go.Proofs.Ytilmicekpclmbaa
set_option linter.unusedVariables false
set_option linter.unusedSimpArgs false
open Go.RowKit

theorem Try.info_byte : (Try.prog.info? 5).map (fun i => (i.zero, i.size, i.bytes)) = some (some (.int .u8 0), 1, 1) := by kernel_rfl
theorem RdB.news {w : World} {B b o : Nat} {xs : List Int} (h : RdB w B (some ⟨b, o, none⟩) xs) (j : Nat) (u : Value) (hu : (vals xs)[j]? = some u) : w.cell? ((⟨b, o, none⟩ : Addr).add j) = some u := by
  have hj : j < xs.length := by
    rcases Nat.lt_or_ge j xs.length with h | h
    · exact h
    · rw [List.getElem?_eq_none (by rw [vals_length]; exact h)] at hu; cases hu
  obtain ⟨b', o', e, _, hc, _⟩ := h j hj
  injection e with e
  injection e with e1 e2
  subst e1 e2
  rw [vals_at xs j hj] at hu
  injection hu with hu
  subst hu
  have e0 : (⟨b, o, none⟩ : Addr).add j = ⟨b, o + j, none⟩ := by
    unfold Addr.add; by_cases h0 : j = 0
    · subst h0; rfl
    · simp [h0]
  rw [e0]
  exact hc
theorem vals_one (xs : List Int) (u : Value) (h : u ∈ vals xs) : u.oneCell' = true := by
  unfold vals at h
  rw [List.mem_map] at h
  obtain ⟨x, _, rfl⟩ := h
  rfl
theorem vals_append (xs ys : List Int) : vals xs ++ vals ys = vals (xs ++ ys) := by unfold vals; rw [List.map_append]
theorem getD_append (xs ys : List Int) (k : Nat) : (xs ++ ys).getD k 0 = if k < xs.length then xs.getD k 0 else ys.getD (k - xs.length) 0 := by
  rw [List.getD_eq_getElem?_getD, List.getElem?_append]
  split
  · rw [List.getD_eq_getElem?_getD]
  · rw [List.getD_eq_getElem?_getD]

theorem app_rd (w : World) {ops : Array Oper} {rs : List Oper} {o : Oper} {a : Act} {Q : Exit → Act → World → Prop} (hgd : o.guard = none)
    (s x : Operand) (ho : o.op = .call { callee := .builtin .append, args := #[s, x], argTypes := #[30, 30] })
    (base g cap k : Nat) (ys : List Int) (hk : ys.length = k) (hs : a.eval s = .slice (some ⟨g, 0, none⟩) k cap) (hown : Own w base g cap ys)
    (B : Nat) (A : Option Addr) (m c : Nat) (xs : List Int) (hm : xs.length = m) (hx : a.eval x = .slice A m c) (hr : RdB w B A xs) (hn : A = none → c = 0)
    (hl : k + m ≤ 1000000) (hbase : base ≤ w.heap.size)
    (h : ∀ g' cap' w', Own w' base g' cap' (ys ++ xs) → w.grownBy w' (some g) → wpList Try.prog ops Q rs (a.put o.dst (.slice (some ⟨g', 0, none⟩) (k + m) cap')) w') :
    wpList Try.prog ops Q (o :: rs) a w := by
  subst hk hm
  rw [← List.length_append] at h
  obtain ⟨i0, hi, hz0, hz1, hz2⟩ := info_parts Try.info_byte
  have hU : ∀ k, k < (ys ++ xs).length → U8 ((ys ++ xs).getD k 0) := fun k hk => by
    rw [getD_append]
    rw [List.length_append] at hk
    split
    · exact hown.2 k (by assumption)
    · obtain ⟨_, _, _, _, _, hu⟩ := hr (k - ys.length) (by omega)
      exact hu
  rcases Nat.eq_zero_or_pos xs.length with h0 | h0
  · obtain rfl : xs = [] := List.eq_nil_of_length_eq_zero h0
    rw [List.append_nil] at h hU
    refine wpList_append_fits_any w hgd s x 30 ho base 5 i0 1 Try.underlying30 hi hz1 g ys.length cap (vals ys) hs hown.1 A 0 c [] hx rfl (fun e => ⟨rfl, hn e⟩) (fun _ _ j u hu => by simp at hu) (fun u hu => by simp at hu) (by have := hown.cap; omega) ?_
    intro w' h1 h2
    rw [Nat.add_zero, List.append_nil] at h1
    exact h g cap w' ⟨h1, hU⟩ h2
  · obtain ⟨b, o', rfl, _, _, _⟩ := hr 0 h0
    refine wpList_append_own w hgd s x 30 ho base 5 i0 (.int .u8 0) 1 1 Try.underlying30 hi hz0 hz1 hz2 rfl (by decide) _ ys.length (vals ys) hs hown.1 ⟨b, o', none⟩ xs.length c (vals xs) hx (by rw [vals_length, Nat.mul_one]) hr.news (vals_one xs) (by unfold maxLen; omega) (by omega) hbase ?_
    intro v' w' h1 h2 h3
    have hpos : 0 < ys.length + xs.length := by omega
    obtain ⟨g', cap', hv, _, _⟩ := h1.form hpos
    subst hv
    rw [vals_append] at h1
    rw [← List.length_append] at h1
    have := h g' cap' w' ⟨h1, hU⟩ h2
    rw [List.length_append] at this
    exact this
end Go.Proofs.Ytilmicekpclmbaa
namespace Go.Proofs.Ytilmicekpclmbaa
set_option linter.unusedVariables false
set_option linter.unusedSimpArgs false
open Go.RowKit

/-- So many noughts. -/
def zeros (n : Nat) : List Int := List.replicate n 0
theorem zeros_length (n : Nat) : (zeros n).length = n := by unfold zeros; rw [List.length_replicate]
theorem made_vals (n : Nat) : (madeCells (Value.int .u8 0).cells (n * 1)).toList = vals (zeros n) := by
  apply List.ext_getElem?
  intro i
  unfold madeCells vals zeros
  simp [Value.cells, List.getElem?_replicate]
  by_cases h : i < n
  · rw [List.getElem?_range h]
    simp [h, Nat.mod_one]
  · rw [List.getElem?_eq_none (by simp; omega)]
    simp [h]
theorem make_own (w : World) {ops : Array Oper} {rs : List Oper} {o : Oper} {a : Act} {Q : Exit → Act → World → Prop} (hgd : o.guard = none)
    (l c : Operand) (ho : o.op = .makeSlice 30 l c) (base n : Nat) (hl : a.eval l = .int .i64 n) (hc : a.eval c = .int .i64 n) (hn : n ≤ 1000000) (hb : base ≤ w.heap.size)
    (h : ∀ w', Own w' base w.heap.size n (zeros n) → Below w.heap.size w w' → wpList Try.prog ops Q rs (a.put o.dst (.slice (some ⟨w.heap.size, 0, none⟩) n n)) w') :
    wpList Try.prog ops Q (o :: rs) a w := by
  obtain ⟨i0, hi, hz0, hz1, hz2⟩ := info_parts Try.info_byte
  refine wpList_make_full w hgd l c 30 ho base 5 i0 (.int .u8 0) 1 Try.underlying30 hi hz0 hz1 .i64 .i64 n n n hl hc rfl rfl (by rw [hz2]; omega) (by unfold maxLen; omega) hb ?_
  intro w' h1 h2
  rw [made_vals] at h1
  refine h w' ⟨?_, fun k hk => ?_⟩ ?_
  · rw [zeros_length]; exact h1
  · rw [zeros_length] at hk
    unfold zeros
    rw [List.getD_eq_getElem?_getD, List.getElem?_replicate]
    simp [hk]
    exact ⟨by decide, by decide⟩
  · exact Below.grown (Below.refl _ _) h2 (Nat.le_refl _) (fun k hk => by cases hk)
/-- make([]byte, 0, n): room of the call's own. -/
theorem make_room (w : World) {ops : Array Oper} {rs : List Oper} {o : Oper} {a : Act} {Q : Exit → Act → World → Prop} (hgd : o.guard = none)
    (l c : Operand) (ho : o.op = .makeSlice 30 l c) (base n : Nat) (hl : a.eval l = .int .i64 0) (hc : a.eval c = .int .i64 n) (hn : n ≤ 1000000) (hb : base ≤ w.heap.size)
    (h : ∀ w', Own w' base w.heap.size n [] → Below w.heap.size w w' → wpList Try.prog ops Q rs (a.put o.dst (.slice (some ⟨w.heap.size, 0, none⟩) 0 n)) w') :
    wpList Try.prog ops Q (o :: rs) a w := by
  obtain ⟨i0, hi, hz0, hz1, hz2⟩ := info_parts Try.info_byte
  refine wpList_make_own w hgd l c 30 ho base 5 i0 (.int .u8 0) 1 Try.underlying30 hi hz0 hz1 .i64 .i64 n n hl hc rfl (by rw [hz2]; omega) (by unfold maxLen; omega) hb ?_
  intro w' h1 h2
  exact h w' ⟨h1, fun k hk => absurd hk (by simp)⟩ (Below.grown (Below.refl _ _) h2 (Nat.le_refl _) (fun k hk => by cases hk))
end Go.Proofs.Ytilmicekpclmbaa

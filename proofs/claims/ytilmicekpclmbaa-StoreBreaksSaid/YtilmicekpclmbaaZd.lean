/-
  Things that lie in blocks of their own: what a call leaves as it was.
  A local array in a block of its own.
  Rows of values that a thing holds in blocks of its own: nil, or a block; what stores, new blocks and appends leave of them.
  Rows of structs that a thing holds in blocks of its own: z cells an element.
-/
import Derived.Test.YtilmicekpclmbaaZb
import Derived.OwnWalk
namespace Go.Proofs.Ytilmicekpclmbaa
set_option linter.unusedVariables false
set_option linter.unusedSimpArgs false
open Go.RowKit

/-- All blocks but those of F are as they were. -/
structure Keep (F : Nat → Prop) (w w' : World) : Prop where
  os : w'.os = w.os
  tape : w'.tape = w.tape
  output : w'.output = w.output
  size : w.heap.size ≤ w'.heap.size
  block : ∀ k, k < w.heap.size → ¬ F k → w'.heap[k]? = w.heap[k]?
theorem Keep.refl (F : Nat → Prop) (w : World) : Keep F w w := ⟨rfl, rfl, rfl, Nat.le_refl _, fun _ _ _ => rfl⟩
theorem Keep.of_below {F : Nat → Prop} {w w' : World} (h : Below w.heap.size w w') : Keep F w w' := ⟨h.os, h.tape, h.output, h.size, fun k hk _ => h.block k hk⟩
/-- The blocks behind a call: those before it, and new ones. -/
def Sub (F' F : Nat → Prop) (w : World) : Prop := ∀ k, F' k → F k ∨ w.heap.size ≤ k
theorem Sub.refl (F : Nat → Prop) (w : World) : Sub F F w := fun _ h => Or.inl h
theorem Sub.trans {F F' F'' : Nat → Prop} {w w' : World} (h : Sub F' F w) (h' : Sub F'' F' w') (hs : w.heap.size ≤ w'.heap.size) : Sub F'' F w := fun k hk => by
  rcases h' k hk with e | e
  · exact h k e
  · exact Or.inr (by omega)
theorem Keep.trans {F F' : Nat → Prop} {w w' w'' : World} (h : Keep F w w') (s : Sub F' F w) (h' : Keep F' w' w'') : Keep F w w'' :=
  ⟨h'.os.trans h.os, h'.tape.trans h.tape, h'.output.trans h.output, Nat.le_trans h.size h'.size, fun k hk hn => by
    rw [h'.block k (by have := h.size; omega) (fun e => by rcases s k e with e | e; exact hn e; omega), h.block k hk hn]⟩
theorem Keep.below {F : Nat → Prop} {B : Nat} {w0 w w' : World} (h : Keep F w w') (hF : ∀ k, F k → B ≤ k) (hb : Below B w0 w) (hB : B ≤ w.heap.size) : Below B w0 w' :=
  hb.trans ⟨h.os, h.tape, h.output, h.size, fun k hk => h.block k (by omega) (fun e => by have := hF k e; omega)⟩
theorem Keep.own {F : Nat → Prop} {w w' : World} {base g cap : Nat} {xs : List Int} (h : Keep F w w') (ho : Own w base g cap xs) (hg : ¬ F g) : Own w' base g cap xs := by
  refine ⟨⟨ho.1.1, ?_⟩, ho.2⟩
  have hl := ho.lt
  rcases ho.1.2 with e | ⟨g', c', cur, e, h1, h2, h3⟩
  · exact Or.inl e
  · refine Or.inr ⟨g', c', cur, e, h1, ?_, h3⟩
    injection e with e
    injection e with e
    injection e with e
    subst e
    rw [h.block _ hl.2 hg]
    exact h2
theorem Keep.reads {F : Nat → Prop} {w w' : World} {B : Nat} {A : Option Addr} {xs : List Int} (h : Keep F w w') (hr : RdB w B A xs) (hB : B ≤ w.heap.size) (hF : ∀ k, F k → B ≤ k) : RdB w' B A xs := fun k hk => by
  obtain ⟨b, o, h1, h2, h3, h4⟩ := hr k hk
  refine ⟨b, o, h1, h2, ?_, h4⟩
  rw [World.cell?_of_block (w := w) (a := ⟨b, o + k, none⟩) (h.block b (by omega) (fun e => by have := hF b e; omega))]
  exact h3
end Go.Proofs.Ytilmicekpclmbaa
namespace Go.Proofs.Ytilmicekpclmbaa
set_option linter.unusedVariables false
set_option linter.unusedSimpArgs false
open Go.RowKit

/-- Block h is an array of type t that holds vs. -/
def Arr (w : World) (h : Nat) (t : TypeId) (vs : List Value) : Prop := w.heap[h]? = some (.cells vs.toArray t (0, 0))
theorem Arr.cell {w : World} {h : Nat} {t : TypeId} {vs : List Value} (ha : Arr w h t vs) (k : Nat) : w.cell? ⟨h, k, none⟩ = vs[k]? := by
  rw [cell_of_row w h k _ _ _ ha]; simp
theorem Arr.frozen {w : World} {h : Nat} {t : TypeId} {vs : List Value} (ha : Arr w h t vs) (k : Nat) : w.frozen? ⟨h, k, none⟩ = false := frozen_of_row w h k _ _ ha
theorem Arr.set {w : World} {h : Nat} {t : TypeId} {vs : List Value} (ha : Arr w h t vs) (k : Nat) (v : Value) : Arr (w.setCell ⟨h, k, none⟩ v) h t (vs.set k v) := by
  unfold Arr
  rw [heap_setCell_same w h k _ _ v ha]
  simp
theorem Arr.same {w w' : World} {h : Nat} {t : TypeId} {vs : List Value} (ha : Arr w h t vs) (e : w'.heap[h]? = w.heap[h]?) : Arr w' h t vs := by unfold Arr; rw [e]; exact ha
theorem Arr.below {w w' : World} {h : Nat} {t : TypeId} {vs : List Value} (ha : Arr w h t vs) (b : Below w.heap.size w w') : Arr w' h t vs := by
  refine ha.same (b.block h ?_)
  rcases Nat.lt_or_ge h w.heap.size with e | e
  · exact e
  · unfold Arr at ha; rw [Array.getElem?_eq_none (by exact e)] at ha; cases ha
theorem Arr.far {w : World} {h g k : Nat} {t : TypeId} {vs : List Value} (ha : Arr w h t vs) (hne : h ≠ g) (v : Value) : Arr (w.setCell ⟨g, k, none⟩ v) h t vs :=
  ha.same (Below.heap_setCell _ _ _ _ hne)
theorem Arr.lt {w : World} {h : Nat} {t : TypeId} {vs : List Value} (ha : Arr w h t vs) : h < w.heap.size := by
  rcases Nat.lt_or_ge h w.heap.size with e | e
  · exact e
  · unfold Arr at ha; rw [Array.getElem?_eq_none (by exact e)] at ha; cases ha
theorem Arr.new (w : World) (t : TypeId) (vs : List Value) : Arr (w.alloc (.cells vs.toArray t)) w.heap.size t vs := by unfold Arr; exact heap_alloc_new w _
def bvals (ts : List Bool) : List Value := ts.map Value.bool
theorem bvals_at (ts : List Bool) (k : Nat) (h : k < ts.length) : (bvals ts)[k]? = some (.bool (ts.getD k false)) := by
  unfold bvals; rw [List.getElem?_map, List.getElem?_eq_getElem h, List.getD_eq_getElem?_getD, List.getElem?_eq_getElem h]; rfl
theorem bvals_set (ts : List Bool) (k : Nat) (x : Bool) : (bvals ts).set k (.bool x) = bvals (ts.set k x) := by unfold bvals; rw [List.map_set]
end Go.Proofs.Ytilmicekpclmbaa
namespace Go.Proofs.Ytilmicekpclmbaa
set_option linter.unusedVariables false
set_option linter.unusedSimpArgs false
open Go.RowKit

/-- The slice at A, of capacity c, holds xs, and lies in a block of its own from its head on (or is nil). -/
def RowA (w : World) (e : TypeId) (A : Option Addr) (c : Nat) (xs : List Value) : Prop := w.ownsRow 0 e 1 (.slice A xs.length c) xs.length xs
theorem RowA.parts {w : World} {e : TypeId} {A : Option Addr} {c : Nat} {xs : List Value} (h : RowA w e A c xs) :
    (A = none ∧ c = 0 ∧ xs = []) ∨ ∃ g cur, A = some ⟨g, 0, none⟩ ∧ w.heap[g]? = some (.cells cur e (0, 0)) ∧ xs.length ≤ c ∧ c ≤ maxLen ∧ cur.size = c ∧ cur.toList.take xs.length = xs := by
  rcases h.2 with ⟨h1, h2⟩ | ⟨g, cap, cur, h1, _, h2, h3, h4, h5, h6⟩
  · left
    injection h1 with h1 _ h3
    exact ⟨h1, h3, List.eq_nil_of_length_eq_zero h2⟩
  · right
    injection h1 with h1 _ h7
    subst h7
    exact ⟨g, cur, h1, h2, h3, h4, by omega, by rw [Nat.mul_one] at h6; exact h6⟩
theorem RowA.mk {w : World} {e : TypeId} {c g : Nat} {xs : List Value} {cur : Array Value} (h : w.heap[g]? = some (.cells cur e (0, 0))) (h1 : xs.length ≤ c) (h2 : c ≤ maxLen) (h3 : cur.size = c) (h4 : cur.toList.take xs.length = xs) : RowA w e (some ⟨g, 0, none⟩) c xs :=
  ⟨by omega, Or.inr ⟨g, c, cur, rfl, Nat.zero_le _, h, h1, h2, by omega, by rw [Nat.mul_one]; exact h4⟩⟩
theorem RowA.nil (w : World) (e : TypeId) : RowA w e none 0 [] := ⟨rfl, Or.inl ⟨rfl, rfl⟩⟩
theorem RowA.same {w w' : World} {e : TypeId} {A : Option Addr} {c : Nat} {xs : List Value} (h : RowA w e A c xs) (k : ∀ a, A = some a → w'.heap[a.block]? = w.heap[a.block]?) : RowA w' e A c xs := by
  rcases h.parts with ⟨rfl, rfl, rfl⟩ | ⟨g, cur, rfl, h1, h2, h3, h4, h5⟩
  · exact RowA.nil _ _
  · exact RowA.mk (by rw [k _ rfl]; exact h1) h2 h3 h4 h5
theorem RowA.lt {w : World} {e : TypeId} {A : Option Addr} {c : Nat} {xs : List Value} (h : RowA w e A c xs) (a : Addr) (ha : A = some a) : a.block < w.heap.size := by
  rcases h.parts with ⟨rfl, rfl, rfl⟩ | ⟨g, cur, rfl, h1, h2, h3, h4, h5⟩
  · cases ha
  · injection ha with ha
    subst ha
    rcases Nat.lt_or_ge g w.heap.size with e | e
    · exact e
    · rw [Array.getElem?_eq_none (by exact e)] at h1; cases h1
theorem RowA.below {w w' : World} {e : TypeId} {A : Option Addr} {c : Nat} {xs : List Value} (h : RowA w e A c xs) (b : Below w.heap.size w w') : RowA w' e A c xs := h.same (fun a ha => b.block _ (h.lt a ha))
theorem RowA.cap {w : World} {e : TypeId} {A : Option Addr} {c : Nat} {xs : List Value} (h : RowA w e A c xs) : xs.length ≤ c ∧ c ≤ maxLen := by
  rcases h.parts with ⟨rfl, rfl, rfl⟩ | ⟨g, cur, rfl, h1, h2, h3, h4, h5⟩
  · exact ⟨Nat.le_refl _, Nat.zero_le _⟩
  · exact ⟨h2, h3⟩
/-- Where its elements lie. -/
theorem RowA.at {w : World} {e : TypeId} {A : Option Addr} {c : Nat} {xs : List Value} (h : RowA w e A c xs) (hp : 0 < xs.length) : ∃ g, A = some ⟨g, 0, none⟩ ∧ ∀ k, w.frozen? ⟨g, k, none⟩ = false ∧ (k < xs.length → w.cell? ⟨g, k, none⟩ = xs[k]?) := by
  rcases h.parts with ⟨rfl, rfl, rfl⟩ | ⟨g, cur, rfl, h1, h2, h3, h4, h5⟩
  · simp at hp
  · refine ⟨g, rfl, fun k => ⟨frozen_of_row w g k cur e h1, fun hk => ?_⟩⟩
    rw [cell_of_row w g k cur e (0, 0) h1, ← h5, List.getElem?_take, if_pos hk]
    simp
theorem RowA.set {w : World} {e : TypeId} {c g : Nat} {xs : List Value} (h : RowA w e (some ⟨g, 0, none⟩) c xs) (k : Nat) (v : Value) : RowA (w.setCell ⟨g, k, none⟩ v) e (some ⟨g, 0, none⟩) c (xs.set k v) := by
  rcases h.parts with ⟨h, _⟩ | ⟨g', cur, h0, h1, h2, h3, h4, h5⟩
  · cases h
  · injection h0 with h0
    injection h0 with h0
    subst h0
    refine RowA.mk (cur := cur.setIfInBounds k v) (heap_setCell_same w g k cur e v h1) (by simp; exact h2) h3 (by simp; exact h4) ?_
    rw [Array.toList_setIfInBounds, List.length_set, List.take_set, h5]
/-- A store into a block of another kind. -/
theorem RowA.far {w : World} {e T : TypeId} {A : Option Addr} {c r k : Nat} {xs vs : List Value} (h : RowA w e A c xs) (hr : Arr w r T vs) (hne : T ≠ e) (v : Value) : RowA (w.setCell ⟨r, k, none⟩ v) e A c xs := by
  refine h.same (fun a ha => Below.heap_setCell _ _ _ _ (fun e' => ?_))
  rcases h.parts with ⟨rfl, rfl, rfl⟩ | ⟨g, cur, rfl, h1, h2, h3, h4, h5⟩
  · cases ha
  · injection ha with ha
    subst ha
    have e' : g = r := e'
    subst e'
    unfold Arr at hr
    rw [h1] at hr
    injection hr with hr
    injection hr with _ hr
    exact hne hr.symm
/-- A store into another block. -/
theorem RowA.other {w : World} {e : TypeId} {A : Option Addr} {c r k : Nat} {xs : List Value} (h : RowA w e A c xs) (hne : ∀ a, A = some a → a.block ≠ r) (v : Value) : RowA (w.setCell ⟨r, k, none⟩ v) e A c xs :=
  h.same (fun a ha => Below.heap_setCell _ _ _ _ (hne a ha))
/-- Two rows of unlike kinds lie apart. -/
theorem RowA.apart {w : World} {e e' : TypeId} {A A' : Option Addr} {c c' : Nat} {xs xs' : List Value} (h : RowA w e A c xs) (h' : RowA w e' A' c' xs') (hne : e ≠ e') (a a' : Addr) (ha : A = some a) (ha' : A' = some a') : a.block ≠ a'.block := by
  rcases h.parts with ⟨rfl, rfl, rfl⟩ | ⟨g, cur, rfl, h1, h2, h3, h4, h5⟩
  · cases ha
  rcases h'.parts with ⟨rfl, rfl, rfl⟩ | ⟨g', cur', rfl, h1', h2', h3', h4', h5'⟩
  · cases ha'
  injection ha with ha
  injection ha' with ha'
  subst ha ha'
  intro e
  have e : g = g' := e
  subst e
  rw [h1] at h1'
  injection h1' with h1'
  injection h1' with _ h1'
  exact hne h1'
/-- Bytes of the thing's own: as a slice value. -/
def BlkAt (w : World) (F : Nat → Prop) (v : Value) (xs : List Int) : Prop := ∃ g c, v = .slice (some ⟨g, 0, none⟩) 128 c ∧ F g ∧ Own w 0 g c xs ∧ xs.length = 128
theorem BlkAt.same {w w' : World} {F F' : Nat → Prop} {v : Value} {xs : List Int} (h : BlkAt w F v xs) (k : ∀ g, F g → w'.heap[g]? = w.heap[g]?) (hF : ∀ g, F g → F' g) : BlkAt w' F' v xs := by
  obtain ⟨g, c, h1, h2, h3, h4⟩ := h
  refine ⟨g, c, h1, hF g h2, ?_, h4⟩
  refine ⟨⟨h3.1.1, ?_⟩, h3.2⟩
  rcases h3.1.2 with e | ⟨g', c', cur, e, e1, e2, e3⟩
  · exact Or.inl e
  · refine Or.inr ⟨g', c', cur, e, e1, ?_, e3⟩
    injection e with e
    injection e with e
    injection e with e
    subst e
    rw [k _ h2]
    exact e2
theorem Own.heap {w : World} {base g cap : Nat} {xs : List Int} (ho : Own w base g cap xs) : ∃ cur, w.heap[g]? = some (.cells cur 5 (0, 0)) := by
  rcases ho.1.2 with ⟨e, _⟩ | ⟨g', c', cur, e, e1, e2, e3⟩
  · cases e
  · injection e with e
    injection e with e
    injection e with e
    subst e
    exact ⟨cur, e2⟩
/-- A store into a block of another kind. -/
theorem BlkAt.far {w : World} {F : Nat → Prop} {T : TypeId} {r k : Nat} {vs : List Value} {v : Value} {xs : List Int} (h : BlkAt w F v xs) (hr : ∃ cur, w.heap[r]? = some (.cells cur T (0, 0))) (hne : T ≠ 5) (u : Value) : BlkAt (w.setCell ⟨r, k, none⟩ u) F v xs := by
  obtain ⟨g, c, h1, h2, h3, h4⟩ := h
  refine ⟨g, c, h1, h2, h3.far (fun e => ?_) u, h4⟩
  subst e
  obtain ⟨c1, e1⟩ := h3.heap
  obtain ⟨c2, e2⟩ := hr
  rw [e1] at e2
  injection e2 with e2
  injection e2 with _ e2
  exact hne e2.symm
def ivals (xs : List Nat) : List Value := xs.map (fun x : Nat => Value.int .i64 (x : Int))
theorem ivals_at (xs : List Nat) (k : Nat) (h : k < xs.length) : (ivals xs)[k]? = some (.int .i64 ((xs.getD k 0 : Nat) : Int)) := by
  unfold ivals; rw [List.getElem?_map, List.getElem?_eq_getElem h, List.getD_eq_getElem?_getD, List.getElem?_eq_getElem h]; rfl

/-- A row that the call itself made, from block base on. -/
def RowO (w : World) (base : Nat) (e : TypeId) (A : Option Addr) (c : Nat) (xs : List Value) : Prop := w.ownsRow base e 1 (.slice A xs.length c) xs.length xs
theorem RowO.row {w : World} {base : Nat} {e : TypeId} {A : Option Addr} {c : Nat} {xs : List Value} (h : RowO w base e A c xs) : RowA w e A c xs := by
  refine ⟨h.1, ?_⟩
  rcases h.2 with h2 | ⟨g, cap, cur, h1, h2, h3⟩
  · exact Or.inl h2
  · exact Or.inr ⟨g, cap, cur, h1, Nat.zero_le _, h3⟩
theorem RowO.ge {w : World} {base : Nat} {e : TypeId} {A : Option Addr} {c : Nat} {xs : List Value} (h : RowO w base e A c xs) (a : Addr) (ha : A = some a) : base ≤ a.block ∧ a.block < w.heap.size := by
  have := h.row.lt a ha
  rcases h.2 with ⟨h2, _⟩ | ⟨g, cap, cur, h1, h2, h3⟩
  · injection h2 with h2; rw [h2] at ha; cases ha
  · injection h1 with h1
    rw [h1] at ha
    injection ha with ha
    subst ha
    exact ⟨h2, this⟩
theorem RowO.of {w : World} {base : Nat} {e : TypeId} {A : Option Addr} {c : Nat} {xs : List Value} (h : RowA w e A c xs) (k : ∀ a, A = some a → base ≤ a.block) : RowO w base e A c xs := by
  refine ⟨h.1, ?_⟩
  rcases h.2 with h2 | ⟨g, cap, cur, h1, h2, h3⟩
  · exact Or.inl h2
  · injection h1 with h1 h4 h5
    exact Or.inr ⟨g, cap, cur, by rw [h1, h5], k ⟨g, 0, none⟩ h1, h3⟩
theorem RowO.same {w w' : World} {base : Nat} {e : TypeId} {A : Option Addr} {c : Nat} {xs : List Value} (h : RowO w base e A c xs) (k : ∀ a, A = some a → w'.heap[a.block]? = w.heap[a.block]?) : RowO w' base e A c xs :=
  RowO.of (h.row.same k) (fun a ha => (h.ge a ha).1)
/-- The empty list that a call writes out. -/
theorem RowO.empty (w : World) (e : TypeId) (base : Nat) (hb : base ≤ w.heap.size) : RowO (w.alloc (.cells #[] e)) base e (some ⟨w.heap.size, 0, none⟩) 0 [] :=
  RowO.of (RowA.mk (cur := #[]) (heap_alloc_new w _) (Nat.le_refl _) (Nat.zero_le _) rfl rfl) (fun a ha => by injection ha with ha; subst ha; exact hb)
/-- What an append reads. -/
def Src (w : World) (A : Option Addr) (c : Nat) (xs : List Value) : Prop := (A = none → xs = [] ∧ c = 0) ∧ ∀ ad, A = some ad → ∀ (j : Nat) (u : Value), xs[j]? = some u → w.cell? (ad.add j) = some u
theorem add_zero' (g j : Nat) : (⟨g, 0, none⟩ : Addr).add j = ⟨g, j, none⟩ := by
  unfold Addr.add; by_cases h0 : j = 0
  · subst h0; rfl
  · simp [h0]
theorem RowA.src {w : World} {e : TypeId} {A : Option Addr} {c : Nat} {xs : List Value} (h : RowA w e A c xs) : Src w A c xs := by
  refine ⟨fun ha => ?_, fun ad ha j u hu => ?_⟩
  · rcases h.parts with ⟨_, h1, h2⟩ | ⟨g, cur, h1, _⟩
    · exact ⟨h2, h1⟩
    · rw [ha] at h1; cases h1
  · have hj : j < xs.length := by
      rcases Nat.lt_or_ge j xs.length with e | e
      · exact e
      · rw [List.getElem?_eq_none e] at hu; cases hu
    obtain ⟨g, h1, h2⟩ := h.at (by omega)
    rw [h1] at ha
    injection ha with ha
    subst ha
    rw [add_zero', (h2 j).2 hj, hu]
/-- One value written out in a new block. -/
theorem Src.one (w : World) (e : TypeId) (v : Value) (m : Nat × Nat) (c : Nat) : Src (w.alloc (.cells #[v] e m)) (some ⟨w.heap.size, 0, none⟩) c [v] := by
  refine ⟨fun ha => (by cases ha), fun ad ha j u hu => ?_⟩
  injection ha with ha
  subst ha
  rw [add_zero', cell_of_row _ _ j _ _ _ (heap_alloc_new w _), ← hu]
  simp
theorem app_row (w : World) {ops : Array Oper} {rs : List Oper} {o : Oper} {a : Act} {Q : Exit → Act → World → Prop} (hgd : o.guard = none)
    (s x : Operand) (t e : TypeId) (ho : o.op = .call { callee := .builtin .append, args := #[s, x], argTypes := #[t, t] }) (hu : Try.prog.underlying t = some (.slice e))
    (z : Value) (nb : Nat) (hinf : (Try.prog.info? e).map (fun i => (i.zero, i.size, i.bytes)) = some (some z, 1, nb)) (hzc : z.cells.size = 1) (hnb : nb ≤ 1000)
    (base : Nat) (A : Option Addr) (c k : Nat) (ys : List Value) (hk : ys.length = k) (hs : a.eval s = .slice A k c) (hown : RowO w base e A c ys)
    (A' : Option Addr) (m c' : Nat) (xs : List Value) (hm : xs.length = m) (hx : a.eval x = .slice A' m c') (hsrc : Src w A' c' xs) (h1 : ∀ u, u ∈ xs → u.oneCell' = true) (hl : k + m ≤ 1000000000) (hA : xs = [] → A ≠ none) (hbase : base ≤ w.heap.size)
    (h : ∀ A'' c'' w', RowO w' base e A'' c'' (ys ++ xs) → w.grownBy w' (Value.slice A k c).ownBlock → A'' ≠ none → wpList Try.prog ops Q rs (a.put o.dst (.slice A'' (k + m) c'')) w') :
    wpList Try.prog ops Q (o :: rs) a w := by
  subst hk hm
  obtain ⟨i0, hi, hz0, hz1, hz2⟩ := info_parts hinf
  rcases Nat.eq_zero_or_pos xs.length with h0 | h0
  · obtain rfl : xs = [] := List.eq_nil_of_length_eq_zero h0
    rcases hown.row.parts with ⟨e1, _⟩ | ⟨g, cur, e1, e2, e3, e4, e5, e6⟩
    · exact absurd e1 (hA rfl)
    subst e1
    refine wpList_append_fits_any w hgd s x t ho base e i0 1 hu hi hz1 g ys.length c ys hs hown A' 0 c' [] hx rfl (fun e => ⟨rfl, (hsrc.1 e).2⟩) (fun _ _ j u hu => by simp at hu) (fun u hu => by simp at hu) (by omega) ?_
    intro w' k1 k2
    refine h (some ⟨g, 0, none⟩) c w' ?_ k2 (fun e => by cases e)
    rw [List.append_nil]
    rw [Nat.add_zero, List.append_nil] at k1
    exact k1
  · cases A' with
    | none =>
      have := (hsrc.1 rfl).1
      subst this
      simp at h0
    | some ad =>
      refine wpList_append_own w hgd s x t ho base e i0 z 1 nb hu hi hz0 hz1 hz2 hzc (by decide) _ ys.length ys hs hown ad xs.length c' xs hx (by rw [Nat.mul_one]) (hsrc.2 ad rfl) h1 (by unfold maxLen; omega) ?_ hbase ?_
      · have := Nat.mul_le_mul hl hnb
        omega
      · intro v' w' k1 k2 k3
        obtain ⟨g', cap', hv, _, _⟩ := k1.form (by omega)
        subst hv
        refine h (some ⟨g', 0, none⟩) cap' w' ?_ k2 (fun e => by cases e)
        unfold RowO
        rw [List.length_append]
        exact k1
end Go.Proofs.Ytilmicekpclmbaa
namespace Go.Proofs.Ytilmicekpclmbaa
set_option linter.unusedVariables false
set_option linter.unusedSimpArgs false
open Go.RowKit

/-- The slice at A, of n elements of z cells each and capacity c, holds the cells xs, and lies in a block of its own from its head on (or is nil). -/
def RowN (w : World) (base : Nat) (e : TypeId) (z : Nat) (A : Option Addr) (n c : Nat) (xs : List Value) : Prop := w.ownsRow base e z (.slice A n c) n xs
theorem RowN.parts {w : World} {base : Nat} {e : TypeId} {z : Nat} {A : Option Addr} {n c : Nat} {xs : List Value} (h : RowN w base e z A n c xs) :
    (A = none ∧ c = 0 ∧ n = 0 ∧ xs = []) ∨ ∃ g cur, A = some ⟨g, 0, none⟩ ∧ base ≤ g ∧ w.heap[g]? = some (.cells cur e (0, 0)) ∧ n ≤ c ∧ c ≤ maxLen ∧ cur.size = c * z ∧ cur.toList.take (n * z) = xs := by
  rcases h.2 with ⟨h1, h2⟩ | ⟨g, cap, cur, h1, hb, h2, h3, h4, h5, h6⟩
  · left
    injection h1 with h1 _ h3
    refine ⟨h1, h3, h2, List.eq_nil_of_length_eq_zero ?_⟩
    rw [h.1, h2, Nat.zero_mul]
  · right
    injection h1 with h1 _ h7
    subst h7
    exact ⟨g, cur, h1, hb, h2, h3, h4, h5, h6⟩
theorem RowN.mk {w : World} {base : Nat} {e : TypeId} {z n c g : Nat} {xs : List Value} {cur : Array Value} (hb : base ≤ g) (h : w.heap[g]? = some (.cells cur e (0, 0))) (h1 : n ≤ c) (h2 : c ≤ maxLen) (h3 : cur.size = c * z) (h4 : cur.toList.take (n * z) = xs) : RowN w base e z (some ⟨g, 0, none⟩) n c xs := by
  refine ⟨?_, Or.inr ⟨g, c, cur, rfl, hb, h, h1, h2, h3, h4⟩⟩
  rw [← h4, List.length_take, Array.length_toList, h3]
  exact Nat.min_eq_left (Nat.mul_le_mul_right z h1)
theorem RowN.nil (w : World) (base : Nat) (e : TypeId) (z : Nat) : RowN w base e z none 0 0 [] := ⟨by simp, Or.inl ⟨rfl, rfl⟩⟩
theorem RowN.same {w w' : World} {base : Nat} {e : TypeId} {z : Nat} {A : Option Addr} {n c : Nat} {xs : List Value} (h : RowN w base e z A n c xs) (k : ∀ a, A = some a → w'.heap[a.block]? = w.heap[a.block]?) : RowN w' base e z A n c xs := by
  rcases h.parts with ⟨rfl, rfl, rfl, rfl⟩ | ⟨g, cur, rfl, hb, h1, h2, h3, h4, h5⟩
  · exact RowN.nil _ _ _ _
  · exact RowN.mk hb (by rw [k _ rfl]; exact h1) h2 h3 h4 h5
theorem RowN.lt {w : World} {base : Nat} {e : TypeId} {z : Nat} {A : Option Addr} {n c : Nat} {xs : List Value} (h : RowN w base e z A n c xs) (a : Addr) (ha : A = some a) : base ≤ a.block ∧ a.block < w.heap.size := by
  rcases h.parts with ⟨rfl, rfl, rfl, rfl⟩ | ⟨g, cur, rfl, hb, h1, h2, h3, h4, h5⟩
  · cases ha
  · injection ha with ha
    subst ha
    refine ⟨hb, ?_⟩
    rcases Nat.lt_or_ge g w.heap.size with e | e
    · exact e
    · rw [Array.getElem?_eq_none (by exact e)] at h1; cases h1
theorem RowN.below {w w' : World} {base : Nat} {e : TypeId} {z : Nat} {A : Option Addr} {n c : Nat} {xs : List Value} (h : RowN w base e z A n c xs) (b : Below w.heap.size w w') : RowN w' base e z A n c xs := h.same (fun a ha => b.block _ (h.lt a ha).2)
theorem RowN.weak {w : World} {base base' : Nat} {e : TypeId} {z : Nat} {A : Option Addr} {n c : Nat} {xs : List Value} (h : RowN w base e z A n c xs) (k : ∀ a, A = some a → base' ≤ a.block) : RowN w base' e z A n c xs := by
  rcases h.parts with ⟨rfl, rfl, rfl, rfl⟩ | ⟨g, cur, rfl, hb, h1, h2, h3, h4, h5⟩
  · exact RowN.nil _ _ _ _
  · exact RowN.mk (k ⟨g, 0, none⟩ rfl) h1 h2 h3 h4 h5
theorem RowN.cap {w : World} {base : Nat} {e : TypeId} {z : Nat} {A : Option Addr} {n c : Nat} {xs : List Value} (h : RowN w base e z A n c xs) : n ≤ c ∧ c ≤ maxLen := by
  rcases h.parts with ⟨rfl, rfl, rfl, rfl⟩ | ⟨g, cur, rfl, hb, h1, h2, h3, h4, h5⟩
  · exact ⟨Nat.le_refl _, Nat.zero_le _⟩
  · exact ⟨h2, h3⟩
theorem RowN.at {w : World} {base : Nat} {e : TypeId} {z : Nat} {A : Option Addr} {n c : Nat} {xs : List Value} (h : RowN w base e z A n c xs) (hp : 0 < n) : ∃ g, A = some ⟨g, 0, none⟩ ∧ ∀ k, w.frozen? ⟨g, k, none⟩ = false ∧ (k < n * z → w.cell? ⟨g, k, none⟩ = xs[k]?) := by
  rcases h.parts with ⟨rfl, rfl, rfl, rfl⟩ | ⟨g, cur, rfl, hb, h1, h2, h3, h4, h5⟩
  · simp at hp
  · refine ⟨g, rfl, fun k => ⟨frozen_of_row w g k cur e h1, fun hk => ?_⟩⟩
    rw [cell_of_row w g k cur e (0, 0) h1, ← h5, List.getElem?_take, if_pos hk]
    simp
theorem RowN.set {w : World} {base : Nat} {e : TypeId} {z n c g : Nat} {xs : List Value} (h : RowN w base e z (some ⟨g, 0, none⟩) n c xs) (k : Nat) (v : Value) : RowN (w.setCell ⟨g, k, none⟩ v) base e z (some ⟨g, 0, none⟩) n c (xs.set k v) := by
  rcases h.parts with ⟨h, _⟩ | ⟨g', cur, h0, hb, h1, h2, h3, h4, h5⟩
  · cases h
  · injection h0 with h0
    injection h0 with h0
    subst h0
    refine RowN.mk (cur := cur.setIfInBounds k v) hb (heap_setCell_same w g k cur e v h1) h2 h3 (by simp; exact h4) ?_
    rw [Array.toList_setIfInBounds, List.take_set, h5]
theorem RowN.kind {w : World} {base : Nat} {e : TypeId} {z : Nat} {A : Option Addr} {n c : Nat} {xs : List Value} (h : RowN w base e z A n c xs) (a : Addr) (ha : A = some a) : ∃ cur, w.heap[a.block]? = some (.cells cur e (0, 0)) := by
  rcases h.parts with ⟨rfl, rfl, rfl, rfl⟩ | ⟨g, cur, rfl, hb, h1, h2, h3, h4, h5⟩
  · cases ha
  · injection ha with ha
    subst ha
    exact ⟨cur, h1⟩
/-- A store into another block. -/
theorem RowN.other {w : World} {base : Nat} {e : TypeId} {z : Nat} {A : Option Addr} {n c r k : Nat} {xs : List Value} (h : RowN w base e z A n c xs) (hne : ∀ a, A = some a → a.block ≠ r) (v : Value) : RowN (w.setCell ⟨r, k, none⟩ v) base e z A n c xs :=
  h.same (fun a ha => Below.heap_setCell _ _ _ _ (hne a ha))
/-- A block of another kind is none of its own. -/
theorem RowN.ne {w : World} {base : Nat} {e T : TypeId} {z : Nat} {A : Option Addr} {n c r : Nat} {xs : List Value} {cur : Array Value} (h : RowN w base e z A n c xs) (hr : w.heap[r]? = some (.cells cur T (0, 0))) (hne : T ≠ e) (a : Addr) (ha : A = some a) : a.block ≠ r := fun k => by
  obtain ⟨c1, h1⟩ := h.kind a ha
  rw [k, hr] at h1
  injection h1 with h1
  injection h1 with _ h1
  exact hne h1
/-- One element more. -/
theorem app_rowN (w : World) {ops : Array Oper} {rs : List Oper} {o : Oper} {a : Act} {Q : Exit → Act → World → Prop} (hgd : o.guard = none)
    (s x : Operand) (t e : TypeId) (ho : o.op = .call { callee := .builtin .append, args := #[s, x], argTypes := #[t, t] }) (hu : Try.prog.underlying t = some (.slice e))
    (zv : Value) (z nb : Nat) (hinf : (Try.prog.info? e).map (fun i => (i.zero, i.size, i.bytes)) = some (some zv, z, nb)) (hzc : zv.cells.size = z) (hz : 0 < z) (hnb : nb ≤ 10000)
    (base : Nat) (A : Option Addr) (c k : Nat) (ys : List Value) (hs : a.eval s = .slice A k c) (hown : RowN w base e z A k c ys)
    (ad : Addr) (c' : Nat) (xs : List Value) (hm : xs.length = z) (hx : a.eval x = .slice (some ad) 1 c') (hsrc : ∀ (j : Nat) (u : Value), xs[j]? = some u → w.cell? (ad.add j) = some u) (h1 : ∀ u, u ∈ xs → u.oneCell' = true) (hl : k + 1 ≤ 1000000000) (hbase : base ≤ w.heap.size)
    (h : ∀ g c'' w', RowN w' base e z (some ⟨g, 0, none⟩) (k + 1) c'' (ys ++ xs) → w.grownBy w' (Value.slice A k c).ownBlock → wpList Try.prog ops Q rs (a.put o.dst (.slice (some ⟨g, 0, none⟩) (k + 1) c'')) w') :
    wpList Try.prog ops Q (o :: rs) a w := by
  obtain ⟨i0, hi, hz0, hz1, hz2⟩ := info_parts hinf
  refine wpList_append_own w hgd s x t ho base e i0 zv z nb hu hi hz0 hz1 hz2 hzc hz _ k ys hs hown ad 1 c' xs hx (by rw [Nat.one_mul]; exact hm) hsrc h1 (by unfold maxLen; omega) ?_ hbase ?_
  · have := Nat.mul_le_mul hl hnb
    omega
  · intro v' w' k1 k2 k3
    obtain ⟨g', cap', hv, _, _⟩ := k1.form (by omega)
    subst hv
    exact h g' cap' w' k1 k2
end Go.Proofs.Ytilmicekpclmbaa

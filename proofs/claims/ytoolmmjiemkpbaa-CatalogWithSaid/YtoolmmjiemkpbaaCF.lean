/-
  Rows of files of the call's own: read as a list, one file more.
-/
import Derived.Test.YtoolmmjiemkpbaaCB
import Derived.Test.YtoolmmjiemkpbaaMemN
import Derived.Deep.AppendLies
namespace Go.Proofs.Ytoolmmjiemkpbaa
set_option linter.unusedVariables false
set_option linter.unusedSimpArgs false
set_option maxRecDepth 100000
open Go.RowKit

def flvs (l : List Fl) : List Value := l.flatMap flv
theorem flvs_len : ∀ (l : List Fl), (flvs l).length = l.length * 4
  | [] => rfl
  | f :: r => by
    show (flv f ++ flvs r).length = _
    rw [List.length_append, flvs_len r, List.length_cons]
    show 4 + _ = _
    omega
theorem flvs_at : ∀ (l : List Fl) (i j : Nat), i < l.length → j < 4 → (flvs l)[i * 4 + j]? = (flv (flAt l i))[j]?
  | [], i, j, hi, _ => absurd hi (by simp)
  | f :: r, 0, j, _, hj => by
    show (flv f ++ flvs r)[0 * 4 + j]? = _
    rw [List.getElem?_append_left (by show 0 * 4 + j < 4; omega), Nat.zero_mul, Nat.zero_add]
    rfl
  | f :: r, i + 1, j, hi, hj => by
    show (flv f ++ flvs r)[(i + 1) * 4 + j]? = _
    rw [List.getElem?_append_right (by show 4 ≤ (i + 1) * 4 + j; omega)]
    have e : (i + 1) * 4 + j - (flv f).length = i * 4 + j := by show (i + 1) * 4 + j - 4 = _; omega
    rw [e, flvs_at r i j (by simpa using hi) hj]
    rfl
theorem flvs_snoc (l : List Fl) (f : Fl) : flvs (l ++ [f]) = flvs l ++ flv f := by
  unfold flvs
  rw [List.flatMap_append]
  simp
theorem flAt_snoc (l : List Fl) (f : Fl) (i : Nat) : flAt (l ++ [f]) i = if i < l.length then flAt l i else if i = l.length then f else Fl.zero := by
  unfold flAt
  rw [List.getD_eq_getElem?_getD, List.getElem?_append]
  split
  · rw [List.getD_eq_getElem?_getD]
  · rename_i h
    split
    · rename_i h2; rw [h2, Nat.sub_self]; rfl
    · rw [List.getElem?_eq_none (by show 1 ≤ _; omega)]; rfl
theorem flv_one (f : Fl) (u : Value) (h : u ∈ flv f) : u.oneCell' = true := by
  unfold flv at h
  simp at h
  rcases h with rfl | rfl | rfl | rfl <;> rfl
/-- A slice of files in a block of the call's own, from its head on (or nil). -/
def OwnF (w : World) (base : Nat) (A : Option Addr) (n cap : Nat) (l : List Fl) : Prop :=
  RowN w base 33 4 A n cap (flvs l) ∧ l.length = n ∧ ∀ i, i < l.length → (flAt l i).Ok
theorem OwnF.nil (w : World) (base : Nat) : OwnF w base none 0 0 [] := ⟨RowN.nil _ _ _ _, rfl, fun i hi => absurd hi (by simp)⟩
theorem OwnF.same {w w' : World} {base : Nat} {A : Option Addr} {n cap : Nat} {l : List Fl} (h : OwnF w base A n cap l) (k : ∀ a, A = some a → w'.heap[a.block]? = w.heap[a.block]?) : OwnF w' base A n cap l := ⟨h.1.same k, h.2⟩
theorem OwnF.below {w w' : World} {base : Nat} {A : Option Addr} {n cap : Nat} {l : List Fl} (h : OwnF w base A n cap l) (b : Below w.heap.size w w') : OwnF w' base A n cap l := ⟨h.1.below b, h.2⟩
theorem OwnF.drew {w : World} {base : Nat} {A : Option Addr} {n cap : Nat} {l : List Fl} (h : OwnF w base A n cap l) : OwnF w.drew base A n cap l := h.below (Below.refl _ _).drew
theorem OwnF.alloc {w : World} {base : Nat} {A : Option Addr} {n cap : Nat} {l : List Fl} (h : OwnF w base A n cap l) (o : Obj) : OwnF (w.alloc o) base A n cap l := h.below ((Below.refl _ _).alloc (Nat.le_refl _) o)
theorem OwnF.lt {w : World} {base : Nat} {A : Option Addr} {n cap : Nat} {l : List Fl} (h : OwnF w base A n cap l) (a : Addr) (ha : A = some a) : base ≤ a.block ∧ a.block < w.heap.size := h.1.lt a ha
theorem OwnF.weak {w : World} {base base' : Nat} {A : Option Addr} {n cap : Nat} {l : List Fl} (h : OwnF w base A n cap l) (k : ∀ a, A = some a → base' ≤ a.block) : OwnF w base' A n cap l := ⟨h.1.weak k, h.2⟩
theorem OwnF.other {w : World} {base : Nat} {A : Option Addr} {n cap r k : Nat} {l : List Fl} (h : OwnF w base A n cap l) (hne : ∀ a, A = some a → a.block ≠ r) (v : Value) : OwnF (w.setCell ⟨r, k, none⟩ v) base A n cap l := ⟨h.1.other hne v, h.2⟩
theorem OwnF.reads {w : World} {base : Nat} {A : Option Addr} {n cap : Nat} {l : List Fl} (h : OwnF w base A n cap l) : FlR w w.heap.size A l := fun i hi => by
  have hn := h.2.1
  obtain ⟨g, rfl, hc⟩ := h.1.at (by omega)
  have c := fun j (hj : j < 4) => ((hc (i * 4 + j)).2 (by omega)).trans (flvs_at l i j hi hj)
  refine ⟨g, 0, rfl, (h.lt _ rfl).2, ?_, ?_, ?_, ?_, h.2.2 i hi⟩
  · rw [Nat.zero_add]; exact c 0 (by decide)
  · rw [Nat.zero_add]; exact c 1 (by decide)
  · rw [Nat.zero_add]; exact c 2 (by decide)
  · rw [Nat.zero_add]; exact c 3 (by decide)
theorem Try.info_file : (Try.prog.info? 33).map (fun i => (i.zero, i.size, i.bytes)) = some (some (.agg #[.int .i64 0, .int .i64 0, .int .i64 0, .int .i64 0]), 4, 32) := by kernel_rfl
/-- A file that lies somewhere. -/
def FlAt4 (w : World) (b o : Nat) (f : Fl) : Prop := ∀ (j : Nat) (u : Value), (flv f)[j]? = some u → w.cell? ((⟨b, o, none⟩ : Addr).add j) = some u
theorem FlAt4.new (w : World) (f : Fl) (t : TypeId) (m : Nat × Nat) : FlAt4 (w.alloc (.cells #[.int .i64 f.name, .int .i64 f.file, .int .i64 f.first, .int .i64 f.blocks] t m)) w.heap.size 0 f := fun j u hu => by
  rw [Addr.add_mid, Nat.zero_add]
  rw [cell_of_row _ _ _ _ _ _ (heap_alloc_new w _), ← hu]
  rw [← Array.getElem?_toList]
  rfl
theorem FlAt4.below {w w' : World} {b o : Nat} {f : Fl} (h : FlAt4 w b o f) (hb : Below w.heap.size w w') (hl : b < w.heap.size) : FlAt4 w' b o f := fun j u hu => by
  rw [hb.cell (p := (⟨b, o, none⟩ : Addr).add j) (by rw [Addr.add_mid]; exact hl)]
  exact h j u hu
theorem OwnF.grow {w' : World} {base g cap n : Nat} {l : List Fl} {f : Fl} (hf : f.Ok) (hl : l.length = n) (ho : ∀ i, i < l.length → (flAt l i).Ok) (h : RowN w' base 33 4 (some ⟨g, 0, none⟩) (n + 1) cap (flvs l ++ flv f)) : OwnF w' base (some ⟨g, 0, none⟩) (n + 1) cap (l ++ [f]) := by
  refine ⟨by rw [flvs_snoc]; exact h, by rw [List.length_append, hl]; rfl, fun i hi => ?_⟩
  rw [flAt_snoc]
  split
  · exact ho i (by assumption)
  · split
    · exact hf
    · exact Fl.zero_ok
/-- What an append leaves alone, and where the row lies behind it. -/
def FlKeep (A : Option Addr) (g : Nat) (w w' : World) : Prop := Keep (fun k => ∃ a, A = some a ∧ k = a.block) w w' ∧ ((∃ a, A = some a ∧ g = a.block) ∨ w.heap.size ≤ g)
theorem flKeep_of {A : Option Addr} {n cap g : Nat} {w w' : World} (h2 : w.grownBy w' (Value.slice A n cap).ownBlock) (h3 : (Value.slice A n cap).ownBlock = some g ∨ w.heap.size ≤ g) : FlKeep A g w w' := by
  cases A with
  | none =>
    refine ⟨⟨h2.os, h2.tape, h2.output, h2.size, fun q hq hn => h2.block q hq (fun e => by cases e)⟩, Or.inr ?_⟩
    rcases h3 with e | e
    · cases e
    · exact e
  | some a =>
    refine ⟨⟨h2.os, h2.tape, h2.output, h2.size, fun q hq hn => h2.block q hq (fun e => hn ⟨a, rfl, ?_⟩)⟩, ?_⟩
    · have e : some q = some a.block := e
      injection e with e
    · rcases h3 with e | e
      · have e : some a.block = some g := e
        injection e with e
        exact Or.inl ⟨a, rfl, e.symm⟩
      · exact Or.inr e
theorem app_fl (w : World) {ops : Array Oper} {rs : List Oper} {o : Oper} {a : Act} {Q : Exit → Act → World → Prop} (hgd : o.guard = none)
    (s x : Operand) (ho : o.op = .call { callee := .builtin .append, args := #[s, x], argTypes := #[25, 25] })
    (base n cap : Nat) (A : Option Addr) (l : List Fl) (hs : a.eval s = .slice A n cap) (hown : OwnF w base A n cap l)
    (b' o' c : Nat) (f : Fl) (hx : a.eval x = .slice (some ⟨b', o', none⟩) 1 c) (hr : FlAt4 w b' o' f) (hf : f.Ok)
    (hl : n ≤ 1000000) (hbase : base ≤ w.heap.size)
    (h : ∀ g' cap' w', OwnF w' base (some ⟨g', 0, none⟩) (n + 1) cap' (l ++ [f]) → FlKeep A g' w w' → wpList Try.prog ops Q rs (a.put o.dst (.slice (some ⟨g', 0, none⟩) (n + 1) cap')) w') :
    wpList Try.prog ops Q (o :: rs) a w := by
  obtain ⟨i0, hi, hz0, hz1, hz2⟩ := info_parts Try.info_file
  refine wpList_append_lies w hgd s x 25 ho base 33 i0 _ 4 32 Try.underlying25 hi hz0 hz1 hz2 rfl (by decide) _ n (flvs l) hs hown.1 ⟨b', o', none⟩ 1 c (flv f) hx rfl hr (flv_one f) (by decide) (by unfold maxLen; omega) (by omega) hbase w.heap.size rfl ?_
  intro g' cap' w' h1 h2 h3 _
  exact h g' cap' w' (OwnF.grow hf hown.2.1 hown.2.2 h1) (flKeep_of h2 (by rcases h3 with e | e; exact Or.inl e; exact Or.inr (by omega)))
theorem step_fl {w : World} {ops : Array Oper} {o : Oper} {a : Act} {K : Act → World → Prop} {Q : Exit → Act → World → Prop} {E : Prop} (hgd : o.guard = none) (s x : Operand)
    (ho : o.op = .call { callee := .builtin .append, args := #[s, x], argTypes := #[25, 25] })
    (base n cap : Nat) (A : Option Addr) (l : List Fl) (hs : a.eval s = .slice A n cap) (hown : OwnF w base A n cap l)
    (b' o' c : Nat) (f : Fl) (hx : a.eval x = .slice (some ⟨b', o', none⟩) 1 c) (hr : FlAt4 w b' o' f) (hf : f.Ok)
    (hl : n ≤ 1000000) (hbase : base ≤ w.heap.size)
    (h : ∀ g' cap' w', OwnF w' base (some ⟨g', 0, none⟩) (n + 1) cap' (l ++ [f]) → FlKeep A g' w w' → K (a.put o.dst (.slice (some ⟨g', 0, none⟩) (n + 1) cap')) w') :
    if Region.wanted o (yielded ops a.tmps) = true then Oper.wp Try.prog o a w K Q else E := by
  obtain ⟨i0, hi, hz0, hz1, hz2⟩ := info_parts Try.info_file
  refine step_append_lies w hgd s x 25 ho base 33 i0 _ 4 32 Try.underlying25 hi hz0 hz1 hz2 rfl (by decide) _ n (flvs l) hs hown.1 ⟨b', o', none⟩ 1 c (flv f) hx rfl hr (flv_one f) (by decide) (by unfold maxLen; omega) (by omega) hbase w.heap.size rfl ?_
  intro g' cap' w' h1 h2 h3 _
  exact h g' cap' w' (OwnF.grow hf hown.2.1 hown.2.2 h1) (flKeep_of h2 (by rcases h3 with e | e; exact Or.inl e; exact Or.inr (by omega)))
end Go.Proofs.Ytoolmmjiemkpbaa

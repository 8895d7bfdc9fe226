/-
  Rows of structs of the call's own: empty ones, many elements more; a slice against nil.
  Lists sorted by an integer key, by insertion, as equals stay in their order; the last of each key. Maths alone.
  A file in a variable: made, read, laid into it, returned; the contract of package catalog's Find.
  The contracts of cmp.Compare at int and of package catalog's byName; one file laid into a row of files of the call's own.
  The contract of slices.insertionSortCmpFunc at files with byName: the row is sorted by names, equals stay in their order.
  Rows of ints of the call's own: one more, sorted (at most twelve), searched; slices.Clone at ints and at files.
  The contract of package catalog's lastOnes: the last file of each name, by rising names, in new memory.
  The contract of package catalog's With: the files of put in the place of those of their names, without those of the names in gone; in new memory.
-/
import Derived.Test.YtoolmmjiemkpbaaMemN
import Derived.Deep.MidRow
import Derived.Test.YtoolmmjiemkpbaaCt
import Derived.Test.YtoolmmjiemkpbaaCPb
import Derived.Test.YtoolmmjiemkpbaaCS
import Derived.WalkSpells
import Derived.WalkLawsBesides
import Derived.Test.YtoolmmjiemkpbaaTake
import Derived.Test.YtoolmmjiemkpbaaCPc
import Derived.BigRegion
import Derived.BigQuiet
import Derived.Deep.QuietTactic
import Derived.Test.YtoolmmjiemkpbaaWLen
import Derived.Test.YtoolmmjiemkpbaaZ2
import Derived.Deep.DeepCutAuto
import Derived.Test.YtoolmmjiemkpbaaCPd
namespace Go.Proofs.Ytoolmmjiemkpbaa
set_option linter.unusedVariables false
set_option linter.unusedSimpArgs false
open Go.RowKit

/-- Many elements onto an empty list of the call's own. -/
theorem app_rowsN (w : World) {ops : Array Oper} {rs : List Oper} {o : Oper} {a : Act} {Q : Exit → Act → World → Prop} (hgd : o.guard = none)
    (s x : Operand) (t e : TypeId) (ho : o.op = .call { callee := .builtin .append, args := #[s, x], argTypes := #[t, t] }) (hu : Try.prog.underlying t = some (.slice e))
    (zv : Value) (z nb : Nat) (hinf : (Try.prog.info? e).map (fun i => (i.zero, i.size, i.bytes)) = some (some zv, z, nb)) (hzc : zv.cells.size = z) (hz : 0 < z) (hnb : nb ≤ 10000)
    (base : Nat) (g c k : Nat) (ys : List Value) (hs : a.eval s = .slice (some ⟨g, 0, none⟩) k c) (hown : RowN w base e z (some ⟨g, 0, none⟩) k c ys)
    (ad : Addr) (m c' : Nat) (xs : List Value) (hm : xs.length = m * z) (hx : a.eval x = .slice (some ad) m c') (hsrc : ∀ (j : Nat) (u : Value), xs[j]? = some u → w.cell? (ad.add j) = some u) (h1 : ∀ u, u ∈ xs → u.oneCell' = true) (hl : k + m ≤ 1000000000) (hbase : base ≤ w.heap.size)
    (h : ∀ g' c'' w', RowN w' base e z (some ⟨g', 0, none⟩) (k + m) c'' (ys ++ xs) → w.grownBy w' (some g) → wpList Try.prog ops Q rs (a.put o.dst (.slice (some ⟨g', 0, none⟩) (k + m) c'')) w') :
    wpList Try.prog ops Q (o :: rs) a w := by
  obtain ⟨i0, hi, hz0, hz1, hz2⟩ := info_parts hinf
  rcases Nat.eq_zero_or_pos m with h0 | h0
  · subst h0
    rw [Nat.zero_mul] at hm
    obtain rfl : xs = [] := List.eq_nil_of_length_eq_zero hm
    refine wpList_append_fits_any w hgd s x t ho base e i0 z hu hi hz1 g k c ys hs hown (some ad) 0 c' [] hx (by simp) (fun e => (by cases e)) (fun _ _ j u hu => by simp at hu) (fun u hu => by simp at hu) (by have := hown.cap; omega) ?_
    intro w' k1 k2
    exact h g c w' k1 k2
  · refine wpList_append_own w hgd s x t ho base e i0 zv z nb hu hi hz0 hz1 hz2 hzc hz _ k ys hs hown ad m c' xs hx hm hsrc h1 (by unfold maxLen; omega) ?_ hbase ?_
    · have := Nat.mul_le_mul hl hnb
      omega
    · intro v' w' k1 k2 k3
      obtain ⟨g', cap', hv, _, _⟩ := k1.form (by omega)
      subst hv
      exact h g' cap' w' k1 k2
theorem RowN.empty (w : World) (e : TypeId) (z base : Nat) (hb : base ≤ w.heap.size) : RowN (w.alloc (.cells #[] e)) base e z (some ⟨w.heap.size, 0, none⟩) 0 0 [] :=
  RowN.mk (cur := #[]) hb (heap_alloc_new w _) (Nat.le_refl _) (Nat.zero_le _) (by simp) (by simp)
theorem RowN.src {w : World} {base : Nat} {e : TypeId} {z n c g : Nat} {xs : List Value} (h : RowN w base e z (some ⟨g, 0, none⟩) n c xs) (j : Nat) (u : Value) (hu : xs[j]? = some u) : w.cell? ((⟨g, 0, none⟩ : Addr).add j) = some u := by
  rcases h.parts with ⟨e1, _⟩ | ⟨g', cur, e1, hb, h1, h2, h3, h4, h5⟩
  · cases e1
  · injection e1 with e1
    injection e1 with e1
    subst e1
    have hj : j < xs.length := by
      rcases Nat.lt_or_ge j xs.length with e | e
      · exact e
      · rw [List.getElem?_eq_none e] at hu; cases hu
    rw [Addr.add_mid, Nat.zero_add, cell_of_row w g j cur _ (0, 0) h1]
    rw [← h5, List.getElem?_take] at hu
    split at hu
    · simpa using hu
    · cases hu
theorem RowN.len {w : World} {base : Nat} {e : TypeId} {z : Nat} {A : Option Addr} {n c : Nat} {xs : List Value} (h : RowN w base e z A n c xs) : xs.length = n * z := h.1

theorem equal_in (d : Nat) (t e : TypeId) (a : Option Addr) (l c : Nat) (h : Try.prog.underlying t = some (.slice e)) (w : World) : (Op.equalIn (d + 1) t (.slice a l c) (.slice none 0 0)).run Try.prog w = .ok a.isNone w := by cases a <;> simp [Op.equalIn, run_underlying h]
theorem eql_nil (t e : TypeId) (a : Option Addr) (l c : Nat) (h : Try.prog.underlying t = some (.slice e)) (w : World) : (binOp .eql t (.slice a l c) (.slice none 0 0)).run Try.prog w = .ok (.bool a.isNone) w := by
  simp only [binOp]
  simp [Op.equal, Op.maxDepth, equal_in 9999 t e a l c h]
end Go.Proofs.Ytoolmmjiemkpbaa
namespace Go.Proofs.Ytoolmmjiemkpbaa
set_option linter.unusedVariables false
set_option linter.unusedSimpArgs false

theorem snoc_ind {α : Type} {P : List α → Prop} (h0 : P []) (h1 : ∀ l x, P l → P (l ++ [x])) (l : List α) : P l := by
  have h : ∀ r : List α, P r.reverse := fun r => by
    induction r with
    | nil => exact h0
    | cons x r ih => rw [List.reverse_cons]; exact h1 _ _ ih
  have := h l.reverse
  rwa [List.reverse_reverse] at this
section
variable {α : Type} (k : α → Int)
/-- x put behind all that are not greater. -/
def ins (x : α) : List α → List α
  | [] => [x]
  | y :: r => if k y ≤ k x then y :: ins x r else x :: y :: r
def isort (l : List α) : List α := l.foldl (fun acc x => ins k x acc) []
def Rise (l : List α) : Prop := l.Pairwise (fun a b => k a ≤ k b)
def RiseS (l : List α) : Prop := l.Pairwise (fun a b => k a < k b)
theorem isort_snoc (l : List α) (x : α) : isort k (l ++ [x]) = ins k x (isort k l) := by
  unfold isort; rw [List.foldl_append]; rfl
theorem ins_length (x : α) : ∀ l : List α, (ins k x l).length = l.length + 1
  | [] => rfl
  | y :: r => by
    unfold ins
    split
    · rw [List.length_cons, ins_length x r, List.length_cons]
    · rfl
theorem isort_length (l : List α) : (isort k l).length = l.length := by
  induction l using snoc_ind with
  | h0 => rfl
  | h1 l x ih => rw [isort_snoc, ins_length, ih, List.length_append]; rfl
theorem mem_ins (x z : α) : ∀ l : List α, z ∈ ins k x l ↔ z = x ∨ z ∈ l
  | [] => by unfold ins; simp
  | y :: r => by
    unfold ins
    split
    · rw [List.mem_cons, mem_ins x z r, List.mem_cons]
      constructor
      · rintro (h | h | h)
        · exact Or.inr (Or.inl h)
        · exact Or.inl h
        · exact Or.inr (Or.inr h)
      · rintro (h | h | h)
        · exact Or.inr (Or.inl h)
        · exact Or.inl h
        · exact Or.inr (Or.inr h)
    · rw [List.mem_cons]
theorem mem_isort (z : α) (l : List α) : z ∈ isort k l ↔ z ∈ l := by
  induction l using snoc_ind with
  | h0 => rfl
  | h1 l x ih => rw [isort_snoc, mem_ins, ih, List.mem_append, List.mem_singleton]; exact Or.comm
theorem ins_rise (x : α) : ∀ l : List α, Rise k l → Rise k (ins k x l)
  | [], _ => by unfold ins; exact List.pairwise_singleton _ _
  | y :: r, h => by
    unfold ins
    have h' := List.pairwise_cons.1 h
    split
    · rename_i hy
      refine List.pairwise_cons.2 ⟨fun z hz => ?_, ins_rise x r h'.2⟩
      rcases (mem_ins k x z r).1 hz with e | e
      · rw [e]; exact hy
      · exact h'.1 z e
    · rename_i hy
      refine List.pairwise_cons.2 ⟨fun z hz => ?_, h⟩
      rcases List.mem_cons.1 hz with e | e
      · rw [e]; omega
      · have := h'.1 z e; omega
theorem isort_rise (l : List α) : Rise k (isort k l) := by
  induction l using snoc_ind with
  | h0 => exact List.Pairwise.nil
  | h1 l x ih => rw [isort_snoc]; exact ins_rise k x _ ih
/-- Where x lands. -/
theorem ins_at (x : α) (S : List α) (hS : ∀ z, z ∈ S → k x < k z) : ∀ P : List α, (∀ z, z ∈ P → k z ≤ k x) → ins k x (P ++ S) = P ++ x :: S
  | [], _ => by
    cases S with
    | nil => rfl
    | cons y r =>
      show ins k x (y :: r) = x :: y :: r
      unfold ins
      rw [if_neg (by have := hS y (List.mem_cons_self ..); omega)]
  | y :: P, h => by
    show ins k x (y :: (P ++ S)) = y :: (P ++ x :: S)
    unfold ins
    rw [if_pos (h y (List.mem_cons_self ..)), ins_at x S hS P (fun z hz => h z (List.mem_cons_of_mem _ hz))]
theorem rise_last {P : List α} {p x : α} {S : List α} (h : Rise k ((P ++ [p]) ++ S)) (hp : k p ≤ k x) : ∀ z, z ∈ P ++ [p] → k z ≤ k x := fun z hz => by
  have h1 := (List.pairwise_append.1 h).1
  rcases List.mem_append.1 hz with e | e
  · have := (List.pairwise_append.1 h1).2.2 z e p (by simp); omega
  · rw [List.mem_singleton.1 e]; exact hp
/-- Equals stay in their order. -/
theorem ins_filter (n : Int) (x : α) : ∀ l : List α, Rise k l → (ins k x l).filter (fun z => k z == n) = l.filter (fun z => k z == n) ++ (if k x == n then [x] else [])
  | [], _ => by
    unfold ins
    rw [List.filter_cons]
    split <;> rfl
  | y :: r, h => by
    have h' := List.pairwise_cons.1 h
    unfold ins
    split
    · rw [List.filter_cons, ins_filter n x r h'.2, List.filter_cons (x := y)]
      split <;> rfl
    · rename_i hy
      rw [List.filter_cons (x := x)]
      split
      · rename_i hx
        have hx : k x = n := by simpa using hx
        have : (y :: r).filter (fun z => k z == n) = [] := by
          rw [List.filter_eq_nil_iff]
          intro z hz hzn
          have hzn : k z = n := by simpa using hzn
          rcases List.mem_cons.1 hz with e | e
          · rw [e] at hzn; omega
          · have := h'.1 z e; omega
        rw [this]; rfl
      · rw [List.append_nil]
theorem isort_filter (n : Int) (l : List α) : (isort k l).filter (fun z => k z == n) = l.filter (fun z => k z == n) := by
  induction l using snoc_ind with
  | h0 => rfl
  | h1 l x ih =>
    rw [isort_snoc, ins_filter k n x _ (isort_rise k l), ih, List.filter_append]
    congr 1
    rw [List.filter_cons]
    split <;> rfl
/-- The last of each key, of a list that rises. -/
def lasts : List α → List α
  | [] => []
  | [x] => [x]
  | x :: y :: r => if k y = k x then lasts (y :: r) else x :: lasts (y :: r)
theorem lasts_mem (z : α) : ∀ l : List α, z ∈ lasts k l → z ∈ l
  | [], h => by cases h
  | [x], h => h
  | x :: y :: r, h => by
    unfold lasts at h
    split at h
    · exact List.mem_cons_of_mem _ (lasts_mem z (y :: r) h)
    · rcases List.mem_cons.1 h with e | e
      · rw [e]; exact List.mem_cons_self ..
      · exact List.mem_cons_of_mem _ (lasts_mem z (y :: r) e)
theorem lasts_riseS : ∀ l : List α, Rise k l → RiseS k (lasts k l)
  | [], _ => List.Pairwise.nil
  | [x], _ => List.pairwise_singleton _ _
  | x :: y :: r, h => by
    have h' := List.pairwise_cons.1 h
    have h2 := List.pairwise_cons.1 h'.2
    unfold lasts
    split
    · exact lasts_riseS _ h'.2
    · rename_i hy
      refine List.pairwise_cons.2 ⟨fun z hz => ?_, lasts_riseS _ h'.2⟩
      have hm := lasts_mem k z _ hz
      have h0 := h'.1 y (List.mem_cons_self ..)
      rcases List.mem_cons.1 hm with e | e
      · rw [e]; omega
      · have := h2.1 z e; omega
theorem lasts_length : ∀ l : List α, (lasts k l).length ≤ l.length
  | [] => Nat.le_refl _
  | [x] => Nat.le_refl _
  | x :: y :: r => by
    have := lasts_length (y :: r)
    rw [List.length_cons] at this
    unfold lasts
    split
    · rw [List.length_cons, List.length_cons]; omega
    · rw [List.length_cons, List.length_cons, List.length_cons]; omega
/-- The first of a key. -/
def fnd (n : Int) (l : List α) : Option α := l.find? (fun z => k z == n)
theorem fnd_filter (n : Int) (l : List α) : fnd k n l = (l.filter (fun z => k z == n)).head? := by
  unfold fnd; rw [List.head?_filter]
theorem fnd_none {n : Int} {l : List α} : fnd k n l = none ↔ ∀ z, z ∈ l → k z ≠ n := by
  unfold fnd
  rw [List.find?_eq_none]
  exact ⟨fun h z hz e => h z hz (by simpa using e), fun h z hz e => h z hz (by simpa using e)⟩
theorem fnd_lasts (n : Int) : ∀ l : List α, Rise k l → fnd k n (lasts k l) = (l.filter (fun z => k z == n)).getLast?
  | [], _ => rfl
  | [x], _ => by
    unfold lasts fnd
    rw [List.find?_cons, List.filter_cons]
    split
    · rename_i h; rw [if_pos h]; rfl
    · rename_i h; rw [if_neg (by rw [h]; decide)]; rfl
  | x :: y :: r, h => by
    have h' := List.pairwise_cons.1 h
    have ih := fnd_lasts n (y :: r) h'.2
    unfold lasts
    split
    · rename_i hy
      rw [ih, List.filter_cons (x := x)]
      split
      · rename_i hx
        have hx : k x = n := by simpa using hx
        have hyn : (k y == n) = true := by simpa using (hy.trans hx)
        rw [List.filter_cons (x := y), if_pos hyn, List.getLast?_cons_cons]
      · rfl
    · rename_i hy
      unfold fnd at ih ⊢
      rw [List.find?_cons]
      have h2 := List.pairwise_cons.1 h'.2
      have h0 := h'.1 y (List.mem_cons_self ..)
      cases hx : (k x == n)
      · rw [ih, List.filter_cons (x := x), hx]; rfl
      · have hx' : k x = n := by simpa using hx
        have e : (y :: r).filter (fun z => k z == n) = [] := by
          rw [List.filter_eq_nil_iff]
          intro z hz hzn
          have hzn : k z = n := by simpa using hzn
          rcases List.mem_cons.1 hz with e | e
          · rw [e] at hzn; omega
          · have := h2.1 z e; omega
        rw [List.filter_cons (x := x), hx, e]; rfl
theorem riseS_rise {l : List α} (h : RiseS k l) : Rise k l := List.Pairwise.imp (fun h => by omega) h
/-- Of a list without two of a key the order does not matter. -/
theorem fnd_isort (n : Int) (l : List α) : fnd k n (isort k l) = fnd k n l := by rw [fnd_filter, fnd_filter, isort_filter]
theorem riseS_of {l : List α} (h : Rise k l) (hd : l.Pairwise (fun a b => k a ≠ k b)) : RiseS k l := by
  induction l with
  | nil => exact List.Pairwise.nil
  | cons x r ih =>
    have h1 := List.pairwise_cons.1 h
    have h2 := List.pairwise_cons.1 hd
    exact List.pairwise_cons.2 ⟨fun z hz => by have := h1.1 z hz; have := h2.1 z hz; omega, ih h1.2 h2.2⟩
theorem ins_apart (x : α) : ∀ l : List α, (∀ z, z ∈ l → k z ≠ k x) → l.Pairwise (fun a b => k a ≠ k b) → (ins k x l).Pairwise (fun a b => k a ≠ k b)
  | [], _, _ => by unfold ins; exact List.pairwise_singleton _ _
  | y :: r, h, hd => by
    have hd' := List.pairwise_cons.1 hd
    unfold ins
    split
    · refine List.pairwise_cons.2 ⟨fun z hz => ?_, ins_apart x r (fun z hz => h z (List.mem_cons_of_mem _ hz)) hd'.2⟩
      rcases (mem_ins k x z r).1 hz with e | e
      · rw [e]; exact h y (List.mem_cons_self ..)
      · exact hd'.1 z e
    · exact List.pairwise_cons.2 ⟨fun z hz => fun e => h z hz e.symm, hd⟩
theorem isort_apart (l : List α) (hd : l.Pairwise (fun a b => k a ≠ k b)) : (isort k l).Pairwise (fun a b => k a ≠ k b) := by
  induction l using snoc_ind with
  | h0 => exact List.Pairwise.nil
  | h1 l x ih =>
    have h := List.pairwise_append.1 hd
    rw [isort_snoc]
    refine ins_apart k x _ (fun z hz => h.2.2 z ((mem_isort k z l).1 hz) x (by simp)) (ih h.1)
theorem isort_riseS {l : List α} (hd : l.Pairwise (fun a b => k a ≠ k b)) : RiseS k (isort k l) := riseS_of k (isort_rise k l) (isort_apart k l hd)
end
/-- What With makes of the files. -/
def withF (fs put : List Fl) (gone : List Int) : List Fl :=
  isort Fl.name (lasts Fl.name (isort Fl.name put) ++ fs.filter (fun f => !decide (f.name ∈ gone ++ (lasts Fl.name (isort Fl.name put)).map Fl.name)))
theorem withF_rise (fs put : List Fl) (gone : List Int) (h : RiseS Fl.name fs) : RiseS Fl.name (withF fs put gone) := by
  refine isort_riseS Fl.name (List.pairwise_append.2 ⟨?_, ?_, ?_⟩)
  · exact List.Pairwise.imp (fun h => by omega) (lasts_riseS Fl.name _ (isort_rise Fl.name put))
  · exact List.Pairwise.imp (fun h => by omega) (List.Pairwise.filter _ h)
  · intro a ha b hb e
    have hb := (List.mem_filter.1 hb).2
    simp only [Bool.not_eq_true', decide_eq_false_iff_not] at hb
    exact hb (List.mem_append_right _ (by rw [← e]; exact List.mem_map_of_mem ha))
/-- The last put of a name. -/
def putOf (n : Int) (put : List Fl) : Option Fl := (put.filter (fun z => z.name == n)).getLast?
theorem lasts_put (n : Int) (put : List Fl) : fnd Fl.name n (lasts Fl.name (isort Fl.name put)) = putOf n put := by
  rw [fnd_lasts Fl.name n _ (isort_rise Fl.name put), isort_filter]; rfl
theorem withF_fnd (fs put : List Fl) (gone : List Int) (n : Int) : fnd Fl.name n (withF fs put gone) = (putOf n put).or (if n ∈ gone then none else fnd Fl.name n fs) := by
  unfold withF
  rw [fnd_isort]
  have e : fnd Fl.name n (lasts Fl.name (isort Fl.name put)) = putOf n put := lasts_put n put
  unfold fnd at e ⊢
  rw [List.find?_append, e]
  cases hp : putOf n put with
  | some x => rfl
  | none =>
    rw [hp] at e
    rw [Option.none_or, Option.none_or, List.find?_filter]
    have hno : n ∉ (lasts Fl.name (isort Fl.name put)).map Fl.name := fun hm => by
      obtain ⟨z, hz, hzn⟩ := List.mem_map.1 hm
      have := List.find?_eq_none.1 e z hz
      simp [hzn] at this
    split
    · rename_i hg
      rw [List.find?_eq_none]
      intro z hz
      intro h1
      simp only [Bool.and_eq_true, Bool.not_eq_true', decide_eq_false_iff_not, beq_iff_eq, decide_eq_true_eq] at h1
      exact h1.1 (List.mem_append_left _ (by rw [h1.2]; exact hg))
    · rename_i hg
      congr 1
      funext z
      rw [Bool.eq_iff_iff]
      simp only [Bool.and_eq_true, Bool.not_eq_true', decide_eq_false_iff_not, beq_iff_eq, List.mem_append, decide_eq_true_eq]
      constructor
      · exact fun h => h.2
      · intro h
        refine ⟨?_, h⟩
        rw [h]
        rintro (q | q)
        · exact hg q
        · exact hno q
end Go.Proofs.Ytoolmmjiemkpbaa
namespace Go.Proofs.Ytoolmmjiemkpbaa
set_option linter.unusedVariables false
set_option linter.unusedSimpArgs false
set_option maxRecDepth 100000
open Go.RowKit

/-- A file in a block of its own. -/
def FlV (w : World) (b : Nat) (f : Fl) : Prop := Arr w b 33 (flv f)
theorem FlV.below {w w' : World} {b : Nat} {f : Fl} (h : FlV w b f) (hb : Below w.heap.size w w') : FlV w' b f := Arr.below h hb
theorem FlV.lt {w : World} {b : Nat} {f : Fl} (h : FlV w b f) : b < w.heap.size := Arr.lt h
theorem FlV.new (w : World) (f : Fl) : FlV (w.alloc (.cells #[.int .i64 f.name, .int .i64 f.file, .int .i64 f.first, .int .i64 f.blocks] 33)) w.heap.size f := Arr.new w _ (flv f)
theorem Try.size_fl : (Try.prog.info? 33).map (·.size) = some 4 := by kernel_rfl
theorem FlV.range {w : World} {b : Nat} {f : Fl} (h : FlV w b f) : w.rangeAt b 0 (flv f) := fun j v hv => by rw [Arr.cell h, Nat.zero_add]; exact hv
theorem FlV.cells {w : World} {b : Nat} {f : Fl} (h : FlV w b f) : w.cell? ⟨b, 0, none⟩ = some (.int .i64 f.name) ∧ w.cell? ⟨b, 1, none⟩ = some (.int .i64 f.file) ∧ w.cell? ⟨b, 2, none⟩ = some (.int .i64 f.first) ∧ w.cell? ⟨b, 3, none⟩ = some (.int .i64 f.blocks) :=
  ⟨Arr.cell h 0, Arr.cell h 1, Arr.cell h 2, Arr.cell h 3⟩
theorem Try.zero_fl : (Try.prog.info? 33).map (fun i => (i.zero, i.size)) = some (some (.agg (flv Fl.zero).toArray), 4) := by kernel_rfl
section
variable {ops : Array Oper} {rs : List Oper} {o : Oper} {a : Act} {w : World} {Q : Exit → Act → World → Prop}
theorem load_fl (hgd : o.guard = none) (x : Operand) (ho : o.op = .load 33 x) (b : Nat) (f : Fl) (hL : FlV w b f) (hx : a.eval x = .pointer (some ⟨b, 0, none⟩))
    (h : wpList Try.prog ops Q rs (a.put o.dst (.agg (flv f).toArray)) w) : wpList Try.prog ops Q (o :: rs) a w :=
  wpList_load_mid hgd _ x ho b 0 hx (flv f) _ hL.range Try.underlying33 rfl Try.size_fl h
theorem zero_fl_run (w : World) : (zeroValue 33).run Try.prog w = .ok (.agg (flv Fl.zero).toArray) w := (zero_of_info Try.zero_fl).1 w
theorem alloc_fl (hgd : o.guard = none) (ho : o.op = .alloc 33)
    (h : ∀ w1, FlV w1 w.heap.size Fl.zero → Below w.heap.size w w1 → w1.heap.size = w.heap.size + 1 → wpList Try.prog ops Q rs (a.put o.dst (.pointer (some ⟨w.heap.size, 0, none⟩))) w1) : wpList Try.prog ops Q (o :: rs) a w :=
  wpList_plain hgd fun K hK => by
    unfold Oper.wp execOp
    simp only [ho, Instr.alloc, newVar, newRow, newObj, Value.cells, Sem.run_bind, Sem.run_pure, Result.andThen_ok, zero_fl_run]
    exact hK _ _ (h _ (Arr.new w _ _) ((Below.refl _ _).alloc (Nat.le_refl _) _) (by simp))
theorem store_fl_run {b : Nat} {f0 f : Fl} (h0 : FlV w b f0) : (storeVar 33 ⟨b, 0, none⟩ (.agg (flv f).toArray)).run Try.prog w = .ok () (w.setRow b (flv f).toArray) :=
  run_storeVar_row w b _ _ _ _ h0 (by rw [List.size_toArray]; exact Try.size_fl) (by rw [List.size_toArray, List.size_toArray]; rfl) (all_oneCell_toArray (flv_one f))
theorem store_fl (hgd : o.guard = none) (x y : Operand) (ho : o.op = .store 33 x y) (b : Nat) (f0 f : Fl) (h0 : FlV w b f0) (hx : a.eval x = .pointer (some ⟨b, 0, none⟩)) (hy : a.eval y = .agg (flv f).toArray)
    (h : ∀ w1, FlV w1 b f → Keep (· = b) w w1 → w1.heap.size = w.heap.size → wpList Try.prog ops Q rs (a.put o.dst undef) w1) : wpList Try.prog ops Q (o :: rs) a w :=
  wpList_plain hgd fun K hK => by
    unfold Oper.wp execOp
    simp only [ho, hx, hy, Instr.storeAt, Instr.sureAddr, Sem.run_bind, Sem.run_pure, Result.andThen_ok, store_fl_run h0]
    exact hK _ _ (h _ (setRow_heap w b _ _ _ _ h0) (keep_setRow w b _) (by simp [World.setRow]))
theorem built_fl0 : Try.prog.built 33 [] = some (flv Fl.zero).toArray := by
  have h1 := Try.zero_fl
  unfold Program.built
  cases hi : Try.prog.info? 33 with
  | none => rw [hi] at h1; cases h1
  | some it =>
    rw [hi] at h1
    simp at h1
    rw [Try.underlying33]
    simp only [h1.1]
    rfl
theorem build_fl0 (hgd : o.guard = none) (ho : o.op = .build 33 #[])
    (h : wpList Try.prog ops Q rs (a.put o.dst (.agg (flv Fl.zero).toArray)) w) : wpList Try.prog ops Q (o :: rs) a w :=
  wpList_plain hgd fun K hK => by
    unfold Oper.wp execOp
    simp only [ho, Array.map_empty, run_build w 33 #[] _ built_fl0, Sem.run_bind, Sem.run_pure, Result.andThen_ok]
    exact hK _ _ h
end
theorem load_fl_run {w : World} {b : Nat} {f : Fl} (h : FlV w b f) : (loadVar 33 ⟨b, 0, none⟩).run Try.prog w = .ok (.agg (flv f).toArray) w :=
  run_loadVar_mid w b 0 _ (flv f) _ h.range Try.underlying33 rfl Try.size_fl
theorem ret_fl {fn : Func} {R : Ending → World → Prop} {a : Act} {w : World} {b : Nat} {f : Fl} {q : Bool} (i j : Nat) (hf : fn.results = #[.cell i 33, .tmp j]) (hi : a.tmps.getD i undef = .pointer (some ⟨b, 0, none⟩)) (hj : a.tmps.getD j undef = .bool q) (h : FlV w b f) (hd : a.defers = [])
    (hR : R (.returned (.tuple #[.agg (flv f).toArray, .bool q])) w) : bodyPost Try.prog fn R .ret a w := by
  refine bodyPost_ret (v := .tuple #[.agg (flv f).toArray, .bool q]) ?_ hd hR
  unfold results
  rw [hf]
  rw [Array.getD_eq_getD_getElem?] at hi hj
  simp [hi, hj, asAddr, load_fl_run h]
/-- What Find answers. -/
def fndF (l : List Fl) (nm : Int) : Fl := (fnd Fl.name nm l).getD Fl.zero
def fndK (l : List Fl) (nm : Int) : Bool := (fnd Fl.name nm l).isSome
theorem mem_flAt {l : List Fl} {z : Fl} (h : z ∈ l) : ∃ i, i < l.length ∧ flAt l i = z := by
  obtain ⟨i, hi, e⟩ := List.mem_iff_getElem.1 h
  refine ⟨i, hi, ?_⟩
  unfold flAt
  rw [List.getD_eq_getElem?_getD, List.getElem?_eq_getElem hi]
  exact e
theorem flAt_mem {l : List Fl} {i : Nat} (hi : i < l.length) : flAt l i ∈ l := by
  unfold flAt
  rw [List.getD_eq_getElem?_getD, List.getElem?_eq_getElem hi]
  exact List.getElem_mem hi
theorem flAt_get {l : List Fl} {i : Nat} (hi : i < l.length) : l[i] = flAt l i := by
  unfold flAt
  rw [List.getD_eq_getElem?_getD, List.getElem?_eq_getElem hi]
  rfl
theorem fnd_miss {l : List Fl} {nm : Int} (h : ∀ j, j < l.length → (flAt l j).name ≠ nm) : fndF l nm = Fl.zero ∧ fndK l nm = false := by
  have e : fnd Fl.name nm l = none := (fnd_none Fl.name).2 fun z hz hn => by
    obtain ⟨i, hi, rfl⟩ := mem_flAt hz
    exact h i hi hn
  unfold fndF fndK
  rw [e]
  exact ⟨rfl, rfl⟩
theorem fnd_hit {l : List Fl} {nm : Int} {i : Nat} (hi : i < l.length) (h : ∀ j, j < i → (flAt l j).name ≠ nm) (hn : (flAt l i).name = nm) : fndF l nm = flAt l i ∧ fndK l nm = true := by
  have e : fnd Fl.name nm l = some (flAt l i) := by
    unfold fnd
    rw [List.find?_eq_some_iff_getElem]
    refine ⟨by simpa using hn, i, hi, flAt_get hi, fun j hj => ?_⟩
    have := h j hj
    rw [flAt_get (by omega)]
    simpa using this
  unfold fndF fndK
  rw [e]
  exact ⟨rfl, rfl⟩
set_option maxHeartbeats 2000000 in
theorem find_any (c : Ct) (N : Nat) (A : Option Addr) (n cap : Nat) (nm : Int) (w : World) (hl : c.files.length = n) (hm : n ≤ maxLen) (hr : FlR w N A c.files) (hN : N ≤ w.heap.size) (hnm : I64x nm) :
    Calls Try.prog 11 #[.agg (ctv c A n cap).toArray, .int .i64 nm] w fun e w' => e = .returned (.tuple #[.agg (flv (fndF c.files nm)).toArray, .bool (fndK c.files nm)]) ∧ Below w.heap.size w w' := by
  unfold maxLen at hm
  obtain ⟨nm0, nm1⟩ := hnm
  have HL := Lib.hid hl; have HR := Lib.hid hr
  clear hl hr
  go_enter Try.func11, Try.ntmps11
  go_wp2_with (with_reducible refine box_ct rfl _ rfl c A n cap rfl ?_)
  intro w1 l1 b1 s1
  obtain ⟨b, hb⟩ : ∃ b, b = w.heap.size := ⟨_, rfl⟩
  rw [← hb] at l1 ⊢
  have hN1 : N ≤ w1.heap.size := by omega
  have R1 := Lib.hid (HR.out.below (b1.mono hN))
  have S1 := Lib.hid s1; have HB := Lib.hid hb
  clear s1 hb
  go_wp2_with (with_reducible refine alloc_fl rfl rfl ?_)
  intro w2 l2 b2 s2
  have s1 := S1.out
  have hb := HB.out
  obtain ⟨r, hr⟩ : ∃ r, r = w1.heap.size := ⟨_, rfl⟩
  rw [← hr] at l2 ⊢
  have R2 := Lib.hid (R1.out.below (b2.mono hN1))
  have B2 := Lib.hid (bstep b1 b2)
  have L2 := Lib.hid l2
  have hN2 : N ≤ w2.heap.size := by omega
  have hr2 : r < w2.heap.size := by omega
  have hwr : w.heap.size ≤ r := by omega
  have hNr : N ≤ r := by omega
  obtain ⟨_, _, _, _, _, _, _, _, c8⟩ := (l1.below b2).cells
  clear hb hr b1 b2 s1 s2 S1 HB l1 l2 R1 HR
  go_wp2
  go_loopw [7, 11] (fun _ iv wr => ∃ i : Nat, i ≤ n ∧ iv = .int .i64 i ∧ (∀ j, j < i → (flAt c.files j).name ≠ nm) ∧ FlV wr r Fl.zero ∧ Below w2.heap.size w2 wr) (fun _ iv _ => n - (intOf iv).toNat)
  case atStart => exact ⟨0, Nat.zero_le _, rfl, fun j hj => by omega, L2.out, Below.refl _ _⟩
  case round =>
    obtain ⟨i, hi, rfl, hall, lz, bw⟩ := hrel
    have HALL := Lib.hid hall
    have LZ := Lib.hid lz
    clear hall lz
    by_cases hlt : i < n
    · have i1 : decide ((i : Int) < (n : Int)) = true := by rw [decide_eq_true_eq]; omega
      have R3 := Lib.hid (R2.out.below (bw.mono hN2))
      obtain ⟨fb, fo, rfl, hfb, z0, z1, z2, z3, fok⟩ := R3.out i (by rw [HL.out]; exact hlt)
      obtain ⟨⟨n0, n1⟩, _⟩ := id fok
      have BW := Lib.hid bw
      have hsz := bw.size
      clear bw fok R3
      obtain ⟨f, hf⟩ : ∃ f, flAt c.files i = f := ⟨_, rfl⟩
      rw [hf] at z0 z1 z2 z3 n0 n1
      have HF := Lib.hid hf
      clear hf
      by_cases hn : f.name = nm
      · have q1 : decide (f.name = nm) = true := by rw [decide_eq_true_eq]; exact hn
        have q2 : (f.name == nm) = true := by rw [beq_iff_eq]; exact hn
        have FH := Lib.hid (fnd_hit (l := c.files) (nm := nm) (i := i) (by rw [HL.out]; exact hlt) HALL.out (by rw [HF.out]; exact hn))
        clear hn
        go_upto_region 5 with fail
        obtain ⟨W, hW⟩ : ∃ W, W = wr.alloc (.cells #[.int .i64 f.name, .int .i64 f.file, .int .i64 f.first, .int .i64 f.blocks] 33) := ⟨_, rfl⟩
        rw [← hW]
        obtain ⟨g, hg⟩ : ∃ g, g = wr.heap.size := ⟨_, rfl⟩
        rw [← hg]
        have hbW : Below wr.heap.size wr W := by rw [hW]; exact (Below.refl _ _).alloc (Nat.le_refl _) _
        have LF : Hid (FlV W g f) := Lib.hid (by rw [hW, hg]; exact FlV.new wr f)
        have LW := Lib.hid (LZ.out.below hbW)
        have BWW := Lib.hid (bstep BW.out hbW)
        clear hW hg hbW z0 z1 z2 z3
        go_wp2_with (first | (with_reducible refine load_fl rfl _ rfl g f LF.out rfl ?_) | (with_reducible refine store_fl rfl _ _ rfl r Fl.zero f LW.out rfl rfl ?_))
        intro w7 l7 k7 s7
        have L7 := Lib.hid l7
        have B7 := Lib.hid (k7.below (fun k hk => by omega) (bstep B2.out BWW.out) (by have := BWW.out.size; have := B2.out.size; omega))
        clear l7 k7 s7
        go_wp2
        refine ret_fl 4 5 rfl rfl rfl L7.out rfl ⟨?_, B7.out⟩
        rw [FH.out.1, FH.out.2, HF.out]
      · have q1 : decide (f.name = nm) = false := by rw [decide_eq_false_iff_not]; exact hn
        have q2 : (f.name == nm) = false := by rw [beq_eq_false_iff_ne]; exact hn
        have HN : Hid (∀ j, j < i + 1 → (flAt c.files j).name ≠ nm) := Lib.hid (fun j hj => by
          by_cases hji : j = i
          · rw [hji, HF.out]; exact hn
          · exact HALL.out j (by omega))
        have hbW : Hid (Below wr.heap.size wr (wr.alloc (.cells #[.int .i64 f.name, .int .i64 f.file, .int .i64 f.first, .int .i64 f.blocks] 33))) := Lib.hid ((Below.refl _ _).alloc (Nat.le_refl _) _)
        clear hn
        go_wp2
        go_roundw
        case rel => exact ⟨i + 1, by omega, by go_num, HN.out, LZ.out.below hbW.out, bstep BW.out hbW.out⟩
        case measure => simp [intOf]; omega
    · obtain rfl : i = n := by omega
      have i1 : decide ((i : Int) < (i : Int)) = false := by simp
      have FM := Lib.hid (fnd_miss (l := c.files) (nm := nm) (by rw [HL.out]; exact HALL.out))
      have BW := Lib.hid bw
      have hsz := bw.size
      clear bw
      go_wp2_with (first | (with_reducible refine build_fl0 rfl rfl ?_) | (with_reducible refine store_fl rfl _ _ rfl r Fl.zero Fl.zero LZ.out rfl rfl ?_))
      intro w7 l7 k7 s7
      have L7 := Lib.hid l7
      have B7 := Lib.hid (k7.below (fun k hk => by omega) (bstep B2.out BW.out) (by have := BW.out.size; have := B2.out.size; omega))
      clear l7 k7 s7
      go_wp2
      refine ret_fl 4 5 rfl rfl rfl L7.out rfl ⟨?_, B7.out⟩
      rw [FM.out.1, FM.out.2]
end Go.Proofs.Ytoolmmjiemkpbaa
namespace Go.Proofs.Ytoolmmjiemkpbaa
set_option linter.unusedVariables false
set_option linter.unusedSimpArgs false
set_option maxRecDepth 100000
open Go.RowKit

def cmp3 (x y : Int) : Int := if x < y then -1 else if y < x then 1 else 0
theorem cmp3_lt (x y : Int) : decide (cmp3 x y < 0) = decide (x < y) := by
  unfold cmp3
  rw [decide_eq_decide]
  split
  · exact ⟨fun _ => by assumption, fun _ => by decide⟩
  · split
    · exact ⟨fun h => absurd h (by decide), fun h => absurd h (by assumption)⟩
    · exact ⟨fun h => absurd h (by decide), fun h => absurd h (by assumption)⟩
theorem compare_any (x y : Int) (hx : I64x x) (hy : I64x y) (w : World) :
    Calls Try.prog 67 #[.int .i64 x, .int .i64 y] w fun e w' => e = .returned (.int .i64 (cmp3 x y)) ∧ w = w' := by
  obtain ⟨x0, x1⟩ := hx; obtain ⟨y0, y1⟩ := hy
  go_enter Try.func67, Try.ntmps67
  by_cases h1 : x < y
  · have d1 : decide (x < y) = true := by simpa using h1
    have E : Hid (cmp3 x y = -1) := Lib.hid (by unfold cmp3; rw [if_pos h1])
    clear h1
    go_wp2
    go_ret
    exact ⟨by rw [E.out]; rfl, rfl⟩
  · have d1 : decide (x < y) = false := by simpa using h1
    by_cases h2 : y < x
    · have d2 : decide (y < x) = true := by simpa using h2
      have d2' : decide (x > y) = true := by simpa using h2
      have E : Hid (cmp3 x y = 1) := Lib.hid (by unfold cmp3; rw [if_neg h1, if_pos h2])
      clear h1 h2
      go_wp2
      go_ret
      exact ⟨by rw [E.out]; rfl, rfl⟩
    · have d2 : decide (y < x) = false := by simpa using h2
      have d2' : decide (x > y) = false := by simpa using h2
      have E : Hid (cmp3 x y = 0) := Lib.hid (by unfold cmp3; rw [if_neg h1, if_neg h2])
      clear h1 h2
      go_wp2
      go_ret
      exact ⟨by rw [E.out]; rfl, rfl⟩
theorem byName_any (p q : Fl) (hp : p.Ok) (hq : q.Ok) (w : World) :
    Calls Try.prog 40 #[.agg #[.int .i64 p.name, .int .i64 p.file, .int .i64 p.first, .int .i64 p.blocks], .agg #[.int .i64 q.name, .int .i64 q.file, .int .i64 q.first, .int .i64 q.blocks]] w fun e w' => e = .returned (.int .i64 (cmp3 p.name q.name)) ∧ Below w.heap.size w w' := by
  have CA := Lib.hid (fun w0 => compare_any p.name q.name hp.a hq.a w0)
  obtain ⟨⟨a0, a1⟩, _⟩ := hp; obtain ⟨⟨b0, b1⟩, _⟩ := hq
  go_enter Try.func40, Try.ntmps40
  go_wp2_with fail
  refine (CA.out _).mono ?_
  rintro e w2 ⟨rfl, rfl⟩
  go_wp2
  go_ret
  exact ⟨rfl, ((Below.refl _ _).alloc (Nat.le_refl _) _).alloc (by simp) _⟩
theorem OwnF.cells4 {w : World} {base g n cap : Nat} {l : List Fl} (h : OwnF w base (some ⟨g, 0, none⟩) n cap l) (i : Nat) (hi : i < n) :
    w.cell? ⟨g, i * 4, none⟩ = some (.int .i64 (flAt l i).name) ∧ w.cell? ⟨g, i * 4 + 1, none⟩ = some (.int .i64 (flAt l i).file) ∧ w.cell? ⟨g, i * 4 + 2, none⟩ = some (.int .i64 (flAt l i).first) ∧ w.cell? ⟨g, i * 4 + 3, none⟩ = some (.int .i64 (flAt l i).blocks) ∧ (flAt l i).Ok := by
  obtain ⟨b, o, e, _, h0, h1, h2, h3, h4⟩ := h.reads i (by rw [h.2.1]; exact hi)
  injection e with e
  injection e with e1 e2
  subst e1 e2
  simp only [Nat.zero_add] at h0 h1 h2 h3
  exact ⟨h0, h1, h2, h3, h4⟩
theorem OwnF.frozen {w : World} {base g n cap : Nat} {l : List Fl} (h : OwnF w base (some ⟨g, 0, none⟩) n cap l) (hn : 0 < n) (k : Nat) : w.frozen? ⟨g, k, none⟩ = false := by
  obtain ⟨g', e, h1⟩ := h.1.at hn
  injection e with e
  injection e with e
  subst e
  exact (h1 k).1
theorem flvs_set : ∀ (l : List Fl) (i : Nat) (f : Fl), i < l.length → flvs (l.set i f) = ((((flvs l).set (i * 4) (.int .i64 f.name)).set (i * 4 + 1) (.int .i64 f.file)).set (i * 4 + 2) (.int .i64 f.first)).set (i * 4 + 3) (.int .i64 f.blocks)
  | [], i, f, hi => absurd hi (by simp)
  | x :: r, 0, f, _ => rfl
  | x :: r, i + 1, f, hi => by
    have ih := flvs_set r i f (by simpa using hi)
    show flv x ++ flvs (r.set i f) = _
    rw [ih]
    have e0 : (i + 1) * 4 = i * 4 + 1 + 1 + 1 + 1 := by omega
    have e1 : (i + 1) * 4 + 1 = (i * 4 + 1) + 1 + 1 + 1 + 1 := by omega
    have e2 : (i + 1) * 4 + 2 = (i * 4 + 2) + 1 + 1 + 1 + 1 := by omega
    have e3 : (i + 1) * 4 + 3 = (i * 4 + 3) + 1 + 1 + 1 + 1 := by omega
    rw [e1, e2, e3, e0]
    rfl
theorem flAt_set (l : List Fl) (i j : Nat) (f : Fl) (hi : i < l.length) : flAt (l.set i f) j = if j = i then f else flAt l j := by
  unfold flAt
  rw [List.getD_eq_getElem?_getD, List.getElem?_set]
  split
  · rename_i h
    subst h
    rw [if_pos rfl]; rfl
  · rename_i h
    rw [if_neg (fun e => h e.symm), List.getD_eq_getElem?_getD]
theorem OwnF.set {w : World} {base g n cap : Nat} {l : List Fl} (h : OwnF w base (some ⟨g, 0, none⟩) n cap l) (i : Nat) (hi : i < n) (f : Fl) (hf : f.Ok) :
    OwnF ((((w.setCell ⟨g, i * 4, none⟩ (.int .i64 f.name)).setCell ⟨g, i * 4 + 1, none⟩ (.int .i64 f.file)).setCell ⟨g, i * 4 + 2, none⟩ (.int .i64 f.first)).setCell ⟨g, i * 4 + 3, none⟩ (.int .i64 f.blocks)) base (some ⟨g, 0, none⟩) n cap (l.set i f) := by
  have hl := h.2.1
  refine ⟨?_, by rw [List.length_set]; exact hl, fun j hj => ?_⟩
  · rw [flvs_set l i f (by omega)]
    exact (((h.1.set _ _).set _ _).set _ _).set _ _
  · rw [List.length_set] at hj
    rw [flAt_set l i j f (by omega)]
    split
    · exact hf
    · exact h.2.2 j hj
theorem keep_set {w : World} {g k : Nat} {v : Value} {F : Nat → Prop} (hF : F g) : Keep F w (w.setCell ⟨g, k, none⟩ v) :=
  ⟨rfl, rfl, rfl, by simp [World.setCell], fun j hj hn => Below.heap_setCell _ _ _ _ (fun e => hn (by rw [e]; exact hF))⟩
theorem Keep.drewN {F : Nat → Prop} {w w' : World} (h : Keep F w w') (q : Nat) : Keep F w (w'.drewN q) := ⟨h.os, h.tape, h.output, h.size, h.block⟩
theorem Keep.drew {F : Nat → Prop} {w w' : World} (h : Keep F w w') : Keep F w w'.drew := ⟨h.os, h.tape, h.output, h.size, h.block⟩
end Go.Proofs.Ytoolmmjiemkpbaa
namespace Go.Proofs.Ytoolmmjiemkpbaa
set_option linter.unusedVariables false
set_option linter.unusedSimpArgs false
set_option maxRecDepth 100000
open Go.RowKit

theorem flAt_app_right (P S : List Fl) (j : Nat) : flAt (P ++ S) (P.length + j) = flAt S j := by
  unfold flAt
  rw [List.getD_eq_getElem?_getD, List.getElem?_append_right (by omega), Nat.add_sub_cancel_left, List.getD_eq_getElem?_getD]
theorem flAt_mid (P S : List Fl) (x : Fl) (j : Nat) (h : P.length = j) : flAt (P ++ x :: S) j = x := by
  subst h
  exact flAt_app_right P (x :: S) 0
/-- What holds at the inner loop's head: x has come to place j, ahead of S; P and S are the sorted front. -/
structure Mid (L R : List Fl) (x : Fl) (j : Nat) (d : List Fl) : Prop where
  mk' ::
  ex : ∃ P S, d = P ++ x :: (S ++ R) ∧ P.length = j ∧ P ++ S = L ∧ ∀ z, z ∈ S → x.name < z.name
theorem Mid.start (L R : List Fl) (x : Fl) : Mid L R x L.length (L ++ x :: R) := ⟨L, [], rfl, rfl, List.append_nil _, fun z hz => by cases hz⟩
theorem Mid.at {L R : List Fl} {x : Fl} {j : Nat} {d : List Fl} (h : Mid L R x j d) : flAt d j = x := by
  obtain ⟨P, S, rfl, hP, _, _⟩ := h
  exact flAt_mid P _ x j hP
theorem Mid.down {L R : List Fl} {x : Fl} {j : Nat} {d : List Fl} (h : Mid L R x (j + 1) d) (hlt : x.name < (flAt d j).name) : Mid L R x j ((d.set (j + 1) (flAt d j)).set j x) := by
  obtain ⟨P, S, rfl, hP, hL, hS⟩ := h
  rcases List.eq_nil_or_concat P with e | ⟨P', p, e⟩
  · rw [e] at hP; cases hP
  · rw [List.concat_eq_append] at e
    subst e
    rw [List.length_append] at hP
    have hP : P'.length = j := by simpa using hP
    have hd : P' ++ [p] ++ x :: (S ++ R) = P' ++ p :: x :: (S ++ R) := by simp
    have hp : flAt (P' ++ [p] ++ x :: (S ++ R)) j = p := by rw [hd]; exact flAt_mid P' _ p j hP
    rw [hp] at hlt ⊢
    refine ⟨P', p :: S, ?_, hP, by rw [← hL]; simp, fun z hz => ?_⟩
    · rw [hd, ← hP, List.set_append_right _ _ (by omega), List.set_append_right _ _ (by omega)]
      have e1 : P'.length + 1 - P'.length = 1 := by omega
      rw [e1, Nat.sub_self]
      rfl
    · rcases List.mem_cons.1 hz with e | e
      · rw [e]; exact hlt
      · exact hS z e
theorem Mid.stop {L R : List Fl} {x : Fl} {j : Nat} {d : List Fl} (h : Mid L R x j d) (hr : Rise Fl.name L) (hs : j = 0 ∨ ∃ i, j = i + 1 ∧ ¬ x.name < (flAt d i).name) : d = ins Fl.name x L ++ R := by
  obtain ⟨P, S, rfl, hP, hL, hS⟩ := h
  have key : ∀ z, z ∈ P → z.name ≤ x.name := by
    rcases hs with e | ⟨i, e, hn⟩
    · rw [e] at hP
      rw [List.eq_nil_of_length_eq_zero hP]
      exact fun z hz => by cases hz
    · rcases List.eq_nil_or_concat P with e' | ⟨P', p, e'⟩
      · rw [e', e] at hP; cases hP
      · rw [List.concat_eq_append] at e'
        subst e'
        rw [List.length_append, e] at hP
        have hP : P'.length = i := by simpa using hP
        have hp : flAt (P' ++ [p] ++ x :: (S ++ R)) i = p := by
          have hd : P' ++ [p] ++ x :: (S ++ R) = P' ++ p :: x :: (S ++ R) := by simp
          rw [hd]; exact flAt_mid P' _ p i hP
        rw [hp] at hn
        rw [← hL] at hr
        exact rise_last Fl.name hr (by omega)
  rw [← hL, ins_at Fl.name x S hS P key]
  simp
theorem Mid.len {L R : List Fl} {x : Fl} {j : Nat} {d : List Fl} (h : Mid L R x j d) : j ≤ L.length ∧ d.length = L.length + 1 + R.length := by
  obtain ⟨P, S, rfl, hP, hL, hS⟩ := h
  rw [← hL]
  simp
  omega
theorem isort_take {l : List Fl} {i : Nat} (hi : i < l.length) : isort Fl.name (l.take (i + 1)) = ins Fl.name (flAt l i) (isort Fl.name (l.take i)) := by
  rw [← isort_snoc, List.take_succ_eq_append_getElem hi, flAt_get hi]
theorem drop_at {l : List Fl} {i : Nat} (hi : i < l.length) : l.drop i = flAt l i :: l.drop (i + 1) := by
  rw [← flAt_get hi]; exact List.drop_eq_getElem_cons hi
set_option maxHeartbeats 4000000 in
theorem insF_any (l : List Fl) (base g n cap : Nat) (w : World) (hn : n ≤ 1000) (h : OwnF w base (some ⟨g, 0, none⟩) n cap l) :
    Calls Try.prog 91 #[.slice (some ⟨g, 0, none⟩) n cap, .int .i64 0, .int .i64 n, .func (.func 40) #[] #[]] w fun e w' => e = .returned (.tuple #[]) ∧ OwnF w' base (some ⟨g, 0, none⟩) n cap (isort Fl.name l) ∧ Keep (· = g) w w' := by
  have H := Lib.hid h
  have HL := Lib.hid h.2.1
  clear h
  go_enter Try.func91, Try.ntmps91
  go_wp2
  go_loopw [8, 9] (fun iv _ wr => ∃ i : Nat, 1 ≤ i ∧ i ≤ n + 1 ∧ iv = .int .i64 i ∧ OwnF wr base (some ⟨g, 0, none⟩) n cap (isort Fl.name (l.take i) ++ l.drop i) ∧ Keep (· = g) w wr) (fun iv _ _ => n + 1 - (intOf iv).toNat)
  case atStart =>
    refine ⟨1, by omega, by omega, rfl, ?_, Keep.refl _ _⟩
    have e : isort Fl.name (l.take 1) ++ l.drop 1 = l := by
      cases l with
      | nil => rfl
      | cons x r => rfl
    rw [e]; exact H.out
  case round =>
    obtain ⟨i, hi1, hi, rfl, ow, kp⟩ := hrel
    have KP := Lib.hid kp
    clear kp
    by_cases hlt : i < n
    · have i1 : decide ((i : Int) < (n : Int)) = true := by rw [decide_eq_true_eq]; omega
      have HX := Lib.hid (isort_take (l := l) (i := i) (by rw [HL.out]; exact hlt))
      rw [drop_at (by rw [HL.out]; exact hlt)] at ow
      have LL : Hid ((isort Fl.name (l.take i)).length = i) := Lib.hid (by rw [isort_length, List.length_take, HL.out]; omega)
      have RS := Lib.hid (isort_rise Fl.name (l.take i))
      have RL : Hid ((l.drop (i + 1)).length = n - (i + 1)) := Lib.hid (by rw [List.length_drop, HL.out])
      obtain ⟨L, hL⟩ : ∃ L, isort Fl.name (l.take i) = L := ⟨_, rfl⟩
      obtain ⟨x, hx⟩ : ∃ x, flAt l i = x := ⟨_, rfl⟩
      obtain ⟨R, hR⟩ : ∃ R, l.drop (i + 1) = R := ⟨_, rfl⟩
      rw [hL] at ow LL RS; rw [hx, hR] at ow; rw [hL, hx] at HX; rw [hR] at RL
      have HR := Lib.hid hR
      have OW := Lib.hid ow
      clear hL hx hR ow
      go_wp2
      go_loopw [9] (fun jv wr => ∃ (j : Nat) (d : List Fl), jv = .int .i64 j ∧ Mid L R x j d ∧ OwnF wr base (some ⟨g, 0, none⟩) n cap d ∧ Keep (· = g) w wr) (fun jv _ => (intOf jv).toNat)
      case atStart => exact ⟨i, L ++ x :: R, rfl, by have := Mid.start L R x; rw [LL.out] at this; exact this, OW.out, KP.out⟩
      case round =>
        obtain ⟨j, d, rfl, md, ow, kp⟩ := hrel
        have ML := md.len
        rw [LL.out, RL.out] at ML
        have MD := Lib.hid md; have OJ := Lib.hid ow; have KJ := Lib.hid kp
        have hgn : 0 < n := by omega
        have hgs := (ow.lt _ rfl).2
        clear md ow kp
        have STOP : Hid ((j = 0 ∨ ∃ i, j = i + 1 ∧ ¬ x.name < (flAt d i).name) → d = isort Fl.name (l.take (i + 1)) ++ l.drop (i + 1)) := Lib.hid (fun h => by rw [HX.out, HR.out]; exact MD.out.stop RS.out h)
        cases j with
        | zero =>
          have j1 : decide ((0 : Int) > 0) = false := by decide
          go_wp2
          go_quiet (fail)
          go_wp2
          go_roundw
          case rel =>
            refine ⟨i + 1, by omega, by omega, by go_num, ?_, ?_⟩
            · rw [← STOP.out (Or.inl (by simp))]; exact OJ.out.same (fun a ha => rfl)
            · exact KJ.out.drewN _
          case measure => simp [intOf]; omega
        | succ m =>
          have j1 : decide (((m : Int) + 1) > 0) = true := by rw [decide_eq_true_eq]; omega
          have j2 : decide ((0 : Int) < ((m : Int) + 1)) = true := by rw [decide_eq_true_eq]; omega
          obtain ⟨x0, x1, x2, x3, xok⟩ := OJ.out.cells4 (m + 1) (by omega)
          rw [MD.out.at] at x0 x1 x2 x3 xok
          obtain ⟨p0, p1, p2, p3, pok⟩ := OJ.out.cells4 m (by omega)
          obtain ⟨p, hp⟩ : ∃ p, flAt d m = p := ⟨_, rfl⟩
          rw [hp] at p0 p1 p2 p3 pok
          have HP := Lib.hid hp
          have BN := Lib.hid (fun w0 => byName_any x p xok pok w0)
          have XOK := Lib.hid xok; have POK := Lib.hid pok
          have mw : IntKind.i64.wrap (m : Int) = m := IntWalk.i64_in _ (by omega)
          obtain ⟨q, hq⟩ : ∃ q, decide (cmp3 x.name p.name < 0) = q := ⟨_, rfl⟩
          have HQ : Hid (decide (x.name < p.name) = q) := Lib.hid (by rw [← hq, cmp3_lt])
          have b1 : (m : Int) + 1 < (n : Int) := by omega
          have b2 : m + 1 < n := by omega
          have b3 : (m : Int) < (n : Int) := by omega
          have b4 : m < n := by omega
          have b5 : (0 : Int) ≤ (m : Int) + 1 := by omega
          clear hp xok pok
          go_upto_region 4 with fail
          refine wp_region_held_drew (S := fun w' => OwnF w' base (some ⟨g, 0, none⟩) n cap d) (by kernel_rfl) OJ.out (fun HS => ?_)
          refine takeY (i := 0) (d := 18) (v := ?_) rfl rfl (by kernel_rfl) (by kernel_rfl) (by kernel_rfl) (fun _ _ _ h => h) (by rfl) ?_ HS ?_
          rotate_left
          · intro w' hSw
            go_simp
            try with_reducible rfl
          simp only [Act.put, List.setIfInBounds_toArray, List.set_cons_zero, List.set_cons_succ]
          refine takeY (i := 1) (d := 19) (v := ?_) rfl rfl (by kernel_rfl) (by kernel_rfl) (by kernel_rfl) (fun _ _ _ h => h) (by rfl) ?_ HS ?_
          rotate_left
          · intro w' hSw
            go_simp
            try with_reducible rfl
          simp only [Act.put, List.setIfInBounds_toArray, List.set_cons_zero, List.set_cons_succ]
          refine takeY (i := 2) (d := 20) (v := ?_) rfl rfl (by kernel_rfl) (by kernel_rfl) (by kernel_rfl) (fun _ _ _ h => h) (by rfl) ?_ HS ?_
          rotate_left
          · intro w' hSw
            go_simp
            try with_reducible rfl
          simp only [Act.put, List.setIfInBounds_toArray, List.set_cons_zero, List.set_cons_succ]
          refine takeY (i := 3) (d := 21) (v := ?_) rfl rfl (by kernel_rfl) (by kernel_rfl) (by kernel_rfl) (fun _ _ _ h => h) (by rfl) ?_ HS ?_
          rotate_left
          · intro w' hSw
            go_simp
            try with_reducible rfl
          simp only [Act.put, List.setIfInBounds_toArray, List.set_cons_zero, List.set_cons_succ]
          refine takeY (i := 4) (d := 22) (v := ?_) rfl rfl (by kernel_rfl) (by kernel_rfl) (by kernel_rfl) (fun _ _ _ h => h) (by rfl) ?_ HS ?_
          rotate_left
          · intro w' hSw
            go_simp
            try with_reducible rfl
          simp only [Act.put, List.setIfInBounds_toArray, List.set_cons_zero, List.set_cons_succ]
          refine takeY (i := 5) (d := 23) (v := ?_) rfl rfl (by kernel_rfl) (by kernel_rfl) (by kernel_rfl) (fun _ _ _ h => h) (by rfl) ?_ HS ?_
          rotate_left
          · intro w' hSw
            go_simp
            try with_reducible rfl
          simp only [Act.put, List.setIfInBounds_toArray, List.set_cons_zero, List.set_cons_succ]
          refine takeY (i := 6) (d := 24) (v := ?_) rfl rfl (by kernel_rfl) (by kernel_rfl) (by kernel_rfl) (fun _ _ _ h => h) (by rfl) ?_ HS ?_
          rotate_left
          · intro w' hSw
            go_simp
            try with_reducible rfl
          simp only [Act.put, List.setIfInBounds_toArray, List.set_cons_zero, List.set_cons_succ]
          refine takeY (i := 7) (d := 25) (v := ?_) rfl rfl (by kernel_rfl) (by kernel_rfl) (by kernel_rfl) (fun _ _ _ h => h) (by rfl) ?_ HS ?_
          rotate_left
          · intro w' hSw
            go_simp
            try with_reducible rfl
          simp only [Act.put, List.setIfInBounds_toArray, List.set_cons_zero, List.set_cons_succ]
          refine takeY (i := 8) (d := 26) (v := ?_) rfl rfl (by kernel_rfl) (by kernel_rfl) (by kernel_rfl) (fun _ _ _ h => h) (by rfl) ?_ HS ?_
          rotate_left
          · intro w' hSw
            obtain ⟨x0, x1, x2, x3, _⟩ := hSw.cells4 (m + 1) (by omega)
            rw [MD.out.at] at x0 x1 x2 x3
            go_simp
            try with_reducible rfl
          simp only [Act.put, List.setIfInBounds_toArray, List.set_cons_zero, List.set_cons_succ]
          refine takeY (i := 9) (d := 27) (v := ?_) rfl rfl (by kernel_rfl) (by kernel_rfl) (by kernel_rfl) (fun _ _ _ h => h) (by rfl) ?_ HS ?_
          rotate_left
          · intro w' hSw
            go_simp
            try with_reducible rfl
          simp only [Act.put, List.setIfInBounds_toArray, List.set_cons_zero, List.set_cons_succ]
          refine takeY (i := 10) (d := 28) (v := ?_) rfl rfl (by kernel_rfl) (by kernel_rfl) (by kernel_rfl) (fun _ _ _ h => h) (by rfl) ?_ HS ?_
          rotate_left
          · intro w' hSw
            go_simp
            try with_reducible rfl
          simp only [Act.put, List.setIfInBounds_toArray, List.set_cons_zero, List.set_cons_succ]
          refine takeY (i := 11) (d := 29) (v := ?_) rfl rfl (by kernel_rfl) (by kernel_rfl) (by kernel_rfl) (fun _ _ _ h => h) (by rfl) ?_ HS ?_
          rotate_left
          · intro w' hSw
            go_simp
            try with_reducible rfl
          simp only [Act.put, List.setIfInBounds_toArray, List.set_cons_zero, List.set_cons_succ]
          refine takeY (i := 12) (d := 30) (v := ?_) rfl rfl (by kernel_rfl) (by kernel_rfl) (by kernel_rfl) (fun _ _ _ h => h) (by rfl) ?_ HS ?_
          rotate_left
          · intro w' hSw
            go_simp
            try with_reducible rfl
          simp only [Act.put, List.setIfInBounds_toArray, List.set_cons_zero, List.set_cons_succ]
          refine takeY (i := 13) (d := 31) (v := ?_) rfl rfl (by kernel_rfl) (by kernel_rfl) (by kernel_rfl) (fun _ _ _ h => h) (by rfl) ?_ HS ?_
          rotate_left
          · intro w' hSw
            obtain ⟨x0, x1, x2, x3, _⟩ := hSw.cells4 m (by omega)
            rw [HP.out] at x0 x1 x2 x3
            go_simp
            try with_reducible rfl
          simp only [Act.put, List.setIfInBounds_toArray, List.set_cons_zero, List.set_cons_succ]
          refine wpAnyH_ready (rs := [14]) (by kernel_rfl) (by simp) ?_
          refine AllReadyH.cons rfl (fun K hK => ?_) AllReadyH.nil
          go_simp
          refine (BN.out _).mono ?_
          rintro e w2 ⟨rfl, b2⟩
          have O2 := Lib.hid (OJ.out.same (w' := w2) (fun a ha => by rw [b2.block _ (OJ.out.lt a ha).2]; rfl))
          have K2 := Lib.hid (KJ.out.step (Keep.of_below (F := (· = g)) (w := wr) (w' := w2) ⟨b2.os, b2.tape, b2.output, b2.size, b2.block⟩))
          have hg2 := (O2.out.lt _ rfl).2
          clear b2 BN
          refine hK.out _ _ O2.out (fun HS2 => ?_)
          clear hK
          try simp only [Act.put, List.setIfInBounds_toArray, List.set_cons_zero, List.set_cons_succ]
          refine takeY (i := 15) (d := 33) (v := ?_) rfl rfl (by kernel_rfl) (by kernel_rfl) (by kernel_rfl) (fun _ _ _ h => h) (by rfl) ?_ HS2 ?_
          rotate_left
          · intro w' hSw
            go_simp
            try with_reducible rfl
          simp only [Act.put, List.setIfInBounds_toArray, List.set_cons_zero, List.set_cons_succ]
          refine takeY (i := 16) (d := 34) (v := ?_) rfl rfl (by kernel_rfl) (by kernel_rfl) (by kernel_rfl) (fun _ _ _ h => h) (by rfl) ?_ HS2 ?_
          rotate_left
          · intro w' hSw
            go_simp
            try with_reducible rfl
          simp only [Act.put, List.setIfInBounds_toArray, List.set_cons_zero, List.set_cons_succ]
          refine wpAnyH_done (by kernel_rfl) ?_ _
          clear HS HS2
          cases q
          · go_wp2
            go_roundw
            case rel =>
              refine ⟨i + 1, by omega, by omega, by go_num, ?_, K2.out⟩
              rw [← STOP.out (Or.inr ⟨m, rfl, by rw [HP.out]; simpa using HQ.out⟩)]; exact O2.out
            case measure => simp [intOf]; omega
          · have X := Lib.hid (O2.out.cells4 (m + 1) (by omega))
            rw [MD.out.at] at X
            have Y := Lib.hid (O2.out.cells4 m (by omega))
            rw [HP.out] at Y
            obtain ⟨x0, x1, x2, x3, _⟩ := X.out
            obtain ⟨p0, p1, p2, p3, _⟩ := Y.out
            have fz := OwnF.frozen O2.out hgn
            clear X Y
            go_upto_region 6 with fail
            go_region
            go_wp2
            go_roundw
            case rel =>
              refine ⟨m, (d.set (m + 1) p).set m x, by congr 1, ?_, ?_, ?_⟩
              · have := MD.out.down (by rw [HP.out]; simpa using HQ.out)
                rw [HP.out] at this
                exact this
              · exact ((O2.out.set (m + 1) (by omega) p POK.out).set m (by omega) x XOK.out).drew
              · exact ((((((((K2.out.step (keep_set rfl)).step (keep_set rfl)).step (keep_set rfl)).step (keep_set rfl)).step (keep_set rfl)).step (keep_set rfl)).step (keep_set rfl)).step (keep_set rfl)).drew
            case measure => simp [intOf]
    · have i1 : decide ((i : Int) < (n : Int)) = false := by rw [decide_eq_false_iff_not]; omega
      have E : Hid (isort Fl.name (l.take i) ++ l.drop i = isort Fl.name l) := Lib.hid (by rw [List.take_of_length_le (by rw [HL.out]; omega), List.drop_eq_nil_of_le (by rw [HL.out]; omega), List.append_nil])
      go_wp2
      go_end0
      exact ⟨rfl, by rw [← E.out]; exact ow, KP.out⟩
theorem insF_none (A : Option Addr) (n cap k : Nat) (hk : k ≤ 1000) (w : World) :
    Calls Try.prog 91 #[.slice A n cap, .int .i64 k, .int .i64 k, .func (.func 40) #[] #[]] w fun e w' => e = .returned (.tuple #[]) ∧ w = w' := by
  have i1 : decide ((k : Int) + 1 < (k : Int)) = false := by rw [decide_eq_false_iff_not]; omega
  have kw : IntKind.i64.wrap ((k : Int) + 1) = (k : Int) + 1 := IntWalk.i64_in _ (by omega)
  go_enter Try.func91, Try.ntmps91
  go_wp2
  go_loopw [8, 9] (fun iv _ wr => iv = .int .i64 ((k : Int) + 1) ∧ w = wr) (fun _ _ _ => 0)
  case atStart => exact ⟨rfl, rfl⟩
  case round =>
    obtain ⟨rfl, rfl⟩ := hrel
    go_wp2
    go_end0
    exact ⟨rfl, rfl⟩
/-- A row of files that a call sorts: its blocks. -/
def blockOf (A : Option Addr) (k : Nat) : Prop := ∃ a, A = some a ∧ k = a.block
theorem insF_whole (l : List Fl) (base : Nat) (A : Option Addr) (n cap : Nat) (w : World) (hn : n ≤ 1000) (h : OwnF w base A n cap l) :
    Calls Try.prog 91 #[.slice A n cap, .int .i64 0, .int .i64 n, .func (.func 40) #[] #[]] w fun e w' => e = .returned (.tuple #[]) ∧ OwnF w' base A n cap (isort Fl.name l) ∧ Keep (blockOf A) w w' := by
  rcases Nat.eq_zero_or_pos n with h0 | h0
  · subst h0
    refine (insF_none A 0 cap 0 (by omega) w).mono ?_
    rintro e w' ⟨rfl, rfl⟩
    have : l = [] := List.eq_nil_of_length_eq_zero h.2.1
    subst this
    exact ⟨rfl, h, Keep.refl _ _⟩
  · obtain ⟨g, rfl, _⟩ := h.1.at h0
    refine (insF_any l base g n cap w hn h).mono ?_
    rintro e w' ⟨rfl, h1, h2⟩
    exact ⟨rfl, h1, h2.os, h2.tape, h2.output, h2.size, fun k hk hn => h2.block k hk (fun e => hn ⟨_, rfl, e⟩)⟩
def StRel (l : List Fl) (base : Nat) (A : Option Addr) (n cap : Nat) (w : World) (av bv : Value) (wr : World) : Prop := (av = .int .i64 0 ∧ bv = .int .i64 20 ∧ w = wr) ∨ (n = 20 ∧ av = .int .i64 20 ∧ bv = .int .i64 40 ∧ OwnF wr base A n cap (isort Fl.name l) ∧ Keep (blockOf A) w wr)
set_option maxHeartbeats 1000000 in
theorem stableF_any (l : List Fl) (base : Nat) (A : Option Addr) (n cap : Nat) (w : World) (hn : n ≤ 20) (h : OwnF w base A n cap l) :
    Calls Try.prog 66 #[.slice A n cap, .int .i64 n, .func (.func 40) #[] #[]] w fun e w' => e = .returned (.tuple #[]) ∧ OwnF w' base A n cap (isort Fl.name l) ∧ Keep (blockOf A) w w' := by
  have H := Lib.hid h
  clear h
  go_enter Try.func66, Try.ntmps66
  have q2 : decide ((20 : Int) < (n : Int)) = false := by rw [decide_eq_false_iff_not]; omega
  go_wp2
  go_loopw [7, 8] (fun av bv wr => StRel l base A n cap w av bv wr) (fun av _ _ => 20 - (intOf av).toNat)
  case atStart => exact Or.inl ⟨rfl, rfl, rfl⟩
  case round =>
    rcases hrel with ⟨rfl, rfl, rfl⟩ | ⟨h20, rfl, rfl, ow, kp⟩
    · by_cases h20 : n = 20
      · have q1 : decide ((20 : Int) ≤ (n : Int)) = true := by rw [decide_eq_true_eq]; omega
        have IF : Hid (Calls Try.prog 91 #[.slice A n cap, .int .i64 0, .int .i64 20, .func (.func 40) #[] #[]] w fun e w' => e = .returned (.tuple #[]) ∧ OwnF w' base A n cap (isort Fl.name l) ∧ Keep (blockOf A) w w') := Lib.hid (by
          have := insF_whole l base A n cap w (by omega) H.out
          have e : (n : Int) = 20 := by omega
          rw [e] at this
          exact this)
        have H20 := Lib.hid h20
        clear h20
        go_wp2_with fail
        refine IF.out.mono ?_
        rintro e w2 ⟨rfl, o2, k2⟩
        have O2 := Lib.hid o2; have K2 := Lib.hid k2
        clear o2 k2 IF
        go_wp2
        go_roundw
        case rel => exact Or.inr ⟨H20.out, rfl, rfl, O2.out, K2.out⟩
        case measure => simp [intOf]
      · have q1 : decide ((20 : Int) ≤ (n : Int)) = false := by rw [decide_eq_false_iff_not]; omega
        have IF := Lib.hid (insF_whole l base A n cap w (by omega) H.out)
        clear h20
        go_wp2_with fail
        refine IF.out.mono ?_
        rintro e w2 ⟨rfl, o2, k2⟩
        have O2 := Lib.hid o2; have K2 := Lib.hid k2
        clear o2 k2 IF
        go_wp2
        go_loopw [6, 7, 8, 9] (fun bs _ _ _ wr => bs = .int .i64 20 ∧ w2 = wr) (fun _ _ _ _ _ => 0)
        case atStart => exact ⟨rfl, rfl⟩
        case round =>
          obtain ⟨rfl, rfl⟩ := hrel
          go_wp2
          go_end0
          exact ⟨rfl, O2.out, K2.out⟩
    · have O2 := Lib.hid ow; have K2 := Lib.hid kp
      have IN : Hid (∀ w0, Calls Try.prog 91 #[.slice A n cap, .int .i64 20, .int .i64 n, .func (.func 40) #[] #[]] w0 fun e w' => e = .returned (.tuple #[]) ∧ w0 = w') := Lib.hid (fun w0 => by
        have := insF_none A n cap 20 (by omega) w0
        have e : (n : Int) = 20 := by omega
        rw [e]
        exact this)
      have q1 : decide ((40 : Int) ≤ (n : Int)) = false := by rw [decide_eq_false_iff_not]; omega
      clear ow kp h20
      go_wp2_with fail
      refine (IN.out _).mono ?_
      rintro e w2 ⟨rfl, rfl⟩
      go_wp2
      go_loopw [6, 7, 8, 9] (fun bs _ _ _ wr2 => bs = .int .i64 20 ∧ wr = wr2) (fun _ _ _ _ _ => 0)
      case atStart => exact ⟨rfl, rfl⟩
      case round =>
        obtain ⟨rfl, rfl⟩ := hrel
        go_wp2
        go_end0
        exact ⟨rfl, O2.out, K2.out⟩
theorem sortF_any (l : List Fl) (base : Nat) (A : Option Addr) (n cap : Nat) (w : World) (hn : n ≤ 20) (h : OwnF w base A n cap l) :
    Calls Try.prog 39 #[.slice A n cap, .func (.func 40) #[] #[]] w fun e w' => e = .returned (.tuple #[]) ∧ OwnF w' base A n cap (isort Fl.name l) ∧ Keep (blockOf A) w w' := by
  have ST := Lib.hid (stableF_any l base A n cap w hn h)
  clear h
  go_enter Try.func39, Try.ntmps39
  go_wp2_with fail
  refine ST.out.mono ?_
  rintro e w2 ⟨rfl, o2, k2⟩
  have O2 := Lib.hid o2; have K2 := Lib.hid k2
  clear o2 k2 ST
  go_wp2
  go_end0
  exact ⟨rfl, O2.out, K2.out⟩
end Go.Proofs.Ytoolmmjiemkpbaa
namespace Go.Proofs.Ytoolmmjiemkpbaa
set_option linter.unusedVariables false
set_option linter.unusedSimpArgs false
set_option maxRecDepth 100000
open Go.RowKit

def iAt (l : List Int) (i : Nat) : Int := l.getD i 0
def keyI (x : Int) : Int := x
theorem iAt_app_right (P S : List Int) (j : Nat) : iAt (P ++ S) (P.length + j) = iAt S j := by
  unfold iAt
  rw [List.getD_eq_getElem?_getD, List.getElem?_append_right (by omega), Nat.add_sub_cancel_left, List.getD_eq_getElem?_getD]
theorem iAt_mid (P S : List Int) (x : Int) (j : Nat) (h : P.length = j) : iAt (P ++ x :: S) j = x := by
  subst h
  exact iAt_app_right P (x :: S) 0
/-- What holds at the inner loop's head: x has come to place j, ahead of S; P and S are the sorted front. -/
structure MidI (L R : List Int) (x : Int) (j : Nat) (d : List Int) : Prop where
  mk' ::
  ex : ∃ P S, d = P ++ x :: (S ++ R) ∧ P.length = j ∧ P ++ S = L ∧ ∀ z, z ∈ S → x < z
theorem MidI.start (L R : List Int) (x : Int) : MidI L R x L.length (L ++ x :: R) := ⟨L, [], rfl, rfl, List.append_nil _, fun z hz => by cases hz⟩
theorem MidI.at {L R : List Int} {x : Int} {j : Nat} {d : List Int} (h : MidI L R x j d) : iAt d j = x := by
  obtain ⟨P, S, rfl, hP, _, _⟩ := h
  exact iAt_mid P _ x j hP
theorem MidI.down {L R : List Int} {x : Int} {j : Nat} {d : List Int} (h : MidI L R x (j + 1) d) (hlt : x < iAt d j) : MidI L R x j ((d.set (j + 1) (iAt d j)).set j x) := by
  obtain ⟨P, S, rfl, hP, hL, hS⟩ := h
  rcases List.eq_nil_or_concat P with e | ⟨P', p, e⟩
  · rw [e] at hP; cases hP
  · rw [List.concat_eq_append] at e
    subst e
    rw [List.length_append] at hP
    have hP : P'.length = j := by simpa using hP
    have hd : P' ++ [p] ++ x :: (S ++ R) = P' ++ p :: x :: (S ++ R) := by simp
    have hp : iAt (P' ++ [p] ++ x :: (S ++ R)) j = p := by rw [hd]; exact iAt_mid P' _ p j hP
    rw [hp] at hlt ⊢
    refine ⟨P', p :: S, ?_, hP, by rw [← hL]; simp, fun z hz => ?_⟩
    · rw [hd, ← hP, List.set_append_right _ _ (by omega), List.set_append_right _ _ (by omega)]
      have e1 : P'.length + 1 - P'.length = 1 := by omega
      rw [e1, Nat.sub_self]
      rfl
    · rcases List.mem_cons.1 hz with e | e
      · rw [e]; exact hlt
      · exact hS z e
theorem MidI.stop {L R : List Int} {x : Int} {j : Nat} {d : List Int} (h : MidI L R x j d) (hr : Rise keyI L) (hs : j = 0 ∨ ∃ i, j = i + 1 ∧ ¬ x < iAt d i) : d = ins keyI x L ++ R := by
  obtain ⟨P, S, rfl, hP, hL, hS⟩ := h
  have key : ∀ z, z ∈ P → z ≤ x := by
    rcases hs with e | ⟨i, e, hn⟩
    · rw [e] at hP
      rw [List.eq_nil_of_length_eq_zero hP]
      exact fun z hz => by cases hz
    · rcases List.eq_nil_or_concat P with e' | ⟨P', p, e'⟩
      · rw [e', e] at hP; cases hP
      · rw [List.concat_eq_append] at e'
        subst e'
        rw [List.length_append, e] at hP
        have hP : P'.length = i := by simpa using hP
        have hp : iAt (P' ++ [p] ++ x :: (S ++ R)) i = p := by
          have hd : P' ++ [p] ++ x :: (S ++ R) = P' ++ p :: x :: (S ++ R) := by simp
          rw [hd]; exact iAt_mid P' _ p i hP
        rw [hp] at hn
        rw [← hL] at hr
        exact rise_last keyI hr (by show p ≤ x; omega)
  rw [← hL, ins_at keyI x S hS P key]
  simp
theorem MidI.len {L R : List Int} {x : Int} {j : Nat} {d : List Int} (h : MidI L R x j d) : j ≤ L.length ∧ d.length = L.length + 1 + R.length := by
  obtain ⟨P, S, rfl, hP, hL, hS⟩ := h
  rw [← hL]
  simp
  omega
theorem isortI_take {l : List Int} {i : Nat} (hi : i < l.length) : isort keyI (l.take (i + 1)) = ins keyI (iAt l i) (isort keyI (l.take i)) := by
  rw [← isort_snoc, List.take_succ_eq_append_getElem hi]
  unfold iAt
  rw [List.getD_eq_getElem?_getD, List.getElem?_eq_getElem hi]
  rfl
theorem dropI_at {l : List Int} {i : Nat} (hi : i < l.length) : l.drop i = iAt l i :: l.drop (i + 1) := by
  unfold iAt
  rw [List.getD_eq_getElem?_getD, List.getElem?_eq_getElem hi]; exact List.drop_eq_getElem_cons hi
def ivs (l : List Int) : List Value := l.map (Value.int .i64)
theorem ivs_len (l : List Int) : (ivs l).length = l.length := by unfold ivs; rw [List.length_map]
theorem ivs_at (l : List Int) (k : Nat) (h : k < l.length) : (ivs l)[k]? = some (.int .i64 (iAt l k)) := by
  unfold ivs iAt; rw [List.getElem?_map, List.getElem?_eq_getElem h, List.getD_eq_getElem?_getD, List.getElem?_eq_getElem h]; rfl
theorem ivs_one (l : List Int) (u : Value) (h : u ∈ ivs l) : u.oneCell' = true := by
  unfold ivs at h
  obtain ⟨x, _, rfl⟩ := List.mem_map.1 h
  rfl
theorem iAt_set (l : List Int) (i j : Nat) (x : Int) (hi : i < l.length) : iAt (l.set i x) j = if j = i then x else iAt l j := by
  unfold iAt
  rw [List.getD_eq_getElem?_getD, List.getElem?_set]
  split
  · rename_i h
    subst h
    rw [if_pos rfl]; rfl
  · rename_i h
    rw [if_neg (fun e => h e.symm), List.getD_eq_getElem?_getD]
theorem iAt_snoc (l : List Int) (x : Int) (i : Nat) : iAt (l ++ [x]) i = if i < l.length then iAt l i else if i = l.length then x else 0 := by
  unfold iAt
  rw [List.getD_eq_getElem?_getD, List.getElem?_append]
  split
  · rw [List.getD_eq_getElem?_getD]
  · rename_i h
    split
    · rename_i h2; rw [h2, Nat.sub_self]; rfl
    · rw [List.getElem?_eq_none (by show 1 ≤ _; omega)]; rfl
/-- A slice of ints in a block of the call's own, from its head on (or nil). -/
def OwnI (w : World) (base : Nat) (A : Option Addr) (n cap : Nat) (l : List Int) : Prop :=
  RowN w base 3 1 A n cap (ivs l) ∧ l.length = n ∧ ∀ i, i < n → I64x (iAt l i)
theorem OwnI.nil (w : World) (base : Nat) : OwnI w base none 0 0 [] := ⟨RowN.nil _ _ _ _, rfl, fun i hi => absurd hi (by simp)⟩
theorem OwnI.same {w w' : World} {base : Nat} {A : Option Addr} {n cap : Nat} {l : List Int} (h : OwnI w base A n cap l) (k : ∀ a, A = some a → w'.heap[a.block]? = w.heap[a.block]?) : OwnI w' base A n cap l := ⟨h.1.same k, h.2⟩
theorem OwnI.below {w w' : World} {base : Nat} {A : Option Addr} {n cap : Nat} {l : List Int} (h : OwnI w base A n cap l) (b : Below w.heap.size w w') : OwnI w' base A n cap l := ⟨h.1.below b, h.2⟩
theorem OwnI.drew {w : World} {base : Nat} {A : Option Addr} {n cap : Nat} {l : List Int} (h : OwnI w base A n cap l) : OwnI w.drew base A n cap l := h.below (Below.refl _ _).drew
theorem OwnI.lt {w : World} {base : Nat} {A : Option Addr} {n cap : Nat} {l : List Int} (h : OwnI w base A n cap l) (a : Addr) (ha : A = some a) : base ≤ a.block ∧ a.block < w.heap.size := h.1.lt a ha
theorem OwnI.cell {w : World} {base g n cap : Nat} {l : List Int} (h : OwnI w base (some ⟨g, 0, none⟩) n cap l) (i : Nat) (hi : i < n) : w.cell? ⟨g, i, none⟩ = some (.int .i64 (iAt l i)) := by
  obtain ⟨g', e, h1⟩ := h.1.at (by omega)
  injection e with e
  injection e with e
  subst e
  rw [(h1 i).2 (by omega)]
  exact ivs_at l i (by rw [h.2.1]; exact hi)
theorem OwnI.frozen {w : World} {base g n cap : Nat} {l : List Int} (h : OwnI w base (some ⟨g, 0, none⟩) n cap l) (hn : 0 < n) (k : Nat) : w.frozen? ⟨g, k, none⟩ = false := by
  obtain ⟨g', e, h1⟩ := h.1.at hn
  injection e with e
  injection e with e
  subst e
  exact (h1 k).1
theorem OwnI.set {w : World} {base g n cap : Nat} {l : List Int} (h : OwnI w base (some ⟨g, 0, none⟩) n cap l) (i : Nat) (hi : i < n) (x : Int) (hx : I64x x) : OwnI (w.setCell ⟨g, i, none⟩ (.int .i64 x)) base (some ⟨g, 0, none⟩) n cap (l.set i x) := by
  have hl := h.2.1
  refine ⟨?_, by rw [List.length_set]; exact hl, fun j hj => ?_⟩
  · have e : ivs (l.set i x) = (ivs l).set i (.int .i64 x) := by unfold ivs; rw [List.map_set]
    rw [e]; exact h.1.set _ _
  · rw [iAt_set l i j x (by omega)]
    split
    · exact hx
    · exact h.2.2 j hj
theorem lessI_any (x y : Int) (w : World) (hx : I64x x) (hy : I64x y) :
    Calls Try.prog 64 #[.int .i64 x, .int .i64 y] w fun e w' => e = .returned (.bool (decide (x < y))) ∧ w' = w := by
  obtain ⟨x0, x1⟩ := hx; obtain ⟨y0, y1⟩ := hy
  obtain ⟨q, hq⟩ : ∃ q, decide (x < y) = q := ⟨_, rfl⟩
  rw [hq]
  go_enter Try.func64, Try.ntmps64
  go_wp2
  go_ret
  exact ⟨rfl, rfl⟩
set_option maxHeartbeats 4000000 in
theorem insI_any (l : List Int) (base g n cap : Nat) (w : World) (hn : n ≤ 1000) (h : OwnI w base (some ⟨g, 0, none⟩) n cap l) :
    Calls Try.prog 80 #[.slice (some ⟨g, 0, none⟩) n cap, .int .i64 0, .int .i64 n] w fun e w' => e = .returned (.tuple #[]) ∧ OwnI w' base (some ⟨g, 0, none⟩) n cap (isort keyI l) ∧ Keep (· = g) w w' := by
  have H := Lib.hid h
  have HL := Lib.hid h.2.1
  clear h
  go_enter Try.func80, Try.ntmps80
  go_wp2
  go_loopw [6, 7] (fun iv _ wr => ∃ i : Nat, 1 ≤ i ∧ i ≤ n + 1 ∧ iv = .int .i64 i ∧ OwnI wr base (some ⟨g, 0, none⟩) n cap (isort keyI (l.take i) ++ l.drop i) ∧ Keep (· = g) w wr) (fun iv _ _ => n + 1 - (intOf iv).toNat)
  case atStart =>
    refine ⟨1, by omega, by omega, rfl, ?_, Keep.refl _ _⟩
    have e : isort keyI (l.take 1) ++ l.drop 1 = l := by
      cases l with
      | nil => rfl
      | cons x r => rfl
    rw [e]; exact H.out
  case round =>
    obtain ⟨i, hi1, hi, rfl, ow, kp⟩ := hrel
    have KP := Lib.hid kp
    clear kp
    by_cases hlt : i < n
    · have i1 : decide ((i : Int) < (n : Int)) = true := by rw [decide_eq_true_eq]; omega
      have HX := Lib.hid (isortI_take (l := l) (i := i) (by rw [HL.out]; exact hlt))
      rw [dropI_at (by rw [HL.out]; exact hlt)] at ow
      have LL : Hid ((isort keyI (l.take i)).length = i) := Lib.hid (by rw [isort_length, List.length_take, HL.out]; omega)
      have RS := Lib.hid (isort_rise keyI (l.take i))
      have RL : Hid ((l.drop (i + 1)).length = n - (i + 1)) := Lib.hid (by rw [List.length_drop, HL.out])
      obtain ⟨L, hL⟩ : ∃ L, isort keyI (l.take i) = L := ⟨_, rfl⟩
      obtain ⟨x, hx⟩ : ∃ x, iAt l i = x := ⟨_, rfl⟩
      obtain ⟨R, hR⟩ : ∃ R, l.drop (i + 1) = R := ⟨_, rfl⟩
      rw [hL] at ow LL RS; rw [hx, hR] at ow; rw [hL, hx] at HX; rw [hR] at RL
      have HR := Lib.hid hR
      have OW := Lib.hid ow
      clear hL hx hR ow
      go_wp2
      go_loopw [7] (fun jv wr => ∃ (j : Nat) (d : List Int), jv = .int .i64 j ∧ MidI L R x j d ∧ OwnI wr base (some ⟨g, 0, none⟩) n cap d ∧ Keep (· = g) w wr) (fun jv _ => (intOf jv).toNat)
      case atStart => exact ⟨i, L ++ x :: R, rfl, by have := MidI.start L R x; rw [LL.out] at this; exact this, OW.out, KP.out⟩
      case round =>
        obtain ⟨j, d, rfl, md, ow, kp⟩ := hrel
        have ML := md.len
        rw [LL.out, RL.out] at ML
        have MD := Lib.hid md; have OJ := Lib.hid ow; have KJ := Lib.hid kp
        have hgn : 0 < n := by omega
        have hgs := (ow.lt _ rfl).2
        clear md ow kp
        have STOP : Hid ((j = 0 ∨ ∃ i, j = i + 1 ∧ ¬ x < iAt d i) → d = isort keyI (l.take (i + 1)) ++ l.drop (i + 1)) := Lib.hid (fun h => by rw [HX.out, HR.out]; exact MD.out.stop RS.out h)
        cases j with
        | zero =>
          have j1 : decide ((0 : Int) > 0) = false := by decide
          go_wp2
          go_quiet (fail)
          go_wp2
          go_roundw
          case rel =>
            refine ⟨i + 1, by omega, by omega, by go_num, ?_, ?_⟩
            · rw [← STOP.out (Or.inl (by simp))]; exact OJ.out.same (fun a ha => rfl)
            · exact KJ.out.drewN _
          case measure => simp [intOf]; omega
        | succ m =>
          have j1 : decide (((m : Int) + 1) > 0) = true := by rw [decide_eq_true_eq]; omega
          have j2 : decide ((0 : Int) < ((m : Int) + 1)) = true := by rw [decide_eq_true_eq]; omega
          have j3 : (0 : Int) < ((m : Int) + 1) := by omega
          have x0 := OJ.out.cell (m + 1) (by omega)
          have xok := OJ.out.2.2 (m + 1) (by omega)
          rw [MD.out.at] at x0 xok
          have p0 := OJ.out.cell m (by omega)
          have pok := OJ.out.2.2 m (by omega)
          obtain ⟨p, hp⟩ : ∃ p, iAt d m = p := ⟨_, rfl⟩
          rw [hp] at p0 pok
          have HP := Lib.hid hp
          have XOK := Lib.hid xok; have POK := Lib.hid pok
          have mw : IntKind.i64.wrap (m : Int) = m := IntWalk.i64_in _ (by omega)
          obtain ⟨q, hq⟩ : ∃ q, decide (x < p) = q := ⟨_, rfl⟩
          have LE : Hid (∀ w0, Calls Try.prog 64 #[.int .i64 x, .int .i64 p] w0 fun e w' => e = .returned (.bool q) ∧ w' = w0) := Lib.hid (fun w0 => by have := lessI_any x p w0 xok pok; rw [hq] at this; exact this)
          have HQ := Lib.hid hq
          have fz := OwnI.frozen OJ.out hgn
          have b1 : (m : Int) + 1 < (n : Int) := by omega
          have b2 : m + 1 < n := by omega
          have b3 : (m : Int) < (n : Int) := by omega
          have b4 : m < n := by omega
          have b5 : (0 : Int) ≤ (m : Int) + 1 := by omega
          clear hp xok pok hq
          go_wp2
          go_quiet (first | (go_at_call 64; refine Calls.quiet_of_same (LE.out _)))
          cases q
          · go_wp2
            go_roundw
            case rel =>
              refine ⟨i + 1, by omega, by omega, by go_num, ?_, KJ.out.drewN _⟩
              rw [← STOP.out (Or.inr ⟨m, rfl, by rw [HP.out]; simpa using HQ.out⟩)]; exact OJ.out.same (fun a ha => rfl)
            case measure => simp [intOf]; omega
          · go_upto_region 6 with fail
            go_region
            go_wp2
            go_roundw
            case rel =>
              refine ⟨m, (d.set (m + 1) p).set m x, by congr 1, ?_, ?_, ?_⟩
              · have := MD.out.down (by rw [HP.out]; simpa using HQ.out)
                rw [HP.out] at this
                exact this
              · have o1 := (OJ.out.set (m + 1) (by omega) p POK.out).set m (by omega) x XOK.out
                exact o1.same (fun a ha => rfl)
              · exact ((KJ.out.drewN _).step (keep_set rfl)).step (keep_set rfl)
            case measure => simp [intOf]
    · have i1 : decide ((i : Int) < (n : Int)) = false := by rw [decide_eq_false_iff_not]; omega
      have E : Hid (isort keyI (l.take i) ++ l.drop i = isort keyI l) := Lib.hid (by rw [List.take_of_length_le (by rw [HL.out]; omega), List.drop_eq_nil_of_le (by rw [HL.out]; omega), List.append_nil])
      go_wp2
      go_end0
      exact ⟨rfl, by rw [← E.out]; exact ow, KP.out⟩
theorem insI_none (A : Option Addr) (cap : Nat) (w : World) :
    Calls Try.prog 80 #[.slice A 0 cap, .int .i64 0, .int .i64 0] w fun e w' => e = .returned (.tuple #[]) ∧ w = w' := by
  go_enter Try.func80, Try.ntmps80
  go_wp2
  go_loopw [6, 7] (fun iv _ wr => iv = .int .i64 1 ∧ w = wr) (fun _ _ _ => 0)
  case atStart => exact ⟨rfl, rfl⟩
  case round =>
    obtain ⟨rfl, rfl⟩ := hrel
    go_wp2
    go_end0
    exact ⟨rfl, rfl⟩
theorem insI_whole (l : List Int) (base : Nat) (A : Option Addr) (n cap : Nat) (w : World) (hn : n ≤ 1000) (h : OwnI w base A n cap l) :
    Calls Try.prog 80 #[.slice A n cap, .int .i64 0, .int .i64 n] w fun e w' => e = .returned (.tuple #[]) ∧ OwnI w' base A n cap (isort keyI l) ∧ Keep (blockOf A) w w' := by
  rcases Nat.eq_zero_or_pos n with h0 | h0
  · subst h0
    refine (insI_none A cap w).mono ?_
    rintro e w' ⟨rfl, rfl⟩
    have : l = [] := List.eq_nil_of_length_eq_zero h.2.1
    subst this
    exact ⟨rfl, h, Keep.refl _ _⟩
  · obtain ⟨g, rfl, _⟩ := h.1.at h0
    refine (insI_any l base g n cap w hn h).mono ?_
    rintro e w' ⟨rfl, h1, h2⟩
    exact ⟨rfl, h1, h2.os, h2.tape, h2.output, h2.size, fun k hk hn => h2.block k hk (fun e => hn ⟨_, rfl, e⟩)⟩
set_option maxHeartbeats 4000000 in
theorem pdq_any (l : List Int) (base : Nat) (A : Option Addr) (n cap : Nat) (lim : Int) (w : World) (hn : n ≤ 12) (h : OwnI w base A n cap l) :
    Calls Try.prog 62 #[.slice A n cap, .int .i64 0, .int .i64 n, .int .i64 lim] w fun e w' => e = .returned (.tuple #[]) ∧ OwnI w' base A n cap (isort keyI l) ∧ Keep (blockOf A) w w' := by
  have IW := Lib.hid (insI_whole l base A n cap w (by omega) h)
  have nw : IntKind.i64.wrap (n : Int) = n := IntWalk.i64_in _ (by omega)
  have q1 : decide ((n : Int) ≤ 12) = true := by rw [decide_eq_true_eq]; omega
  clear h
  go_enter Try.func62, Try.ntmps62
  go_wp2
  go_loopw [1, 2, 3] (fun av bv _ wr => av = .int .i64 0 ∧ bv = .int .i64 n ∧ w = wr) (fun _ _ _ _ => 0)
  case atStart => exact ⟨rfl, rfl, rfl⟩
  case round =>
    obtain ⟨rfl, rfl, rfl⟩ := hrel
    go_upto_if 3 with fail
    go_wp2_with fail
    refine IW.out.mono ?_
    rintro e w2 ⟨rfl, o2, k2⟩
    have O2 := Lib.hid o2; have K2 := Lib.hid k2
    clear o2 k2 IW
    go_wp2
    (try simp only [Exit.inBlock, Exit.then])
    refine bodyPost_ret (results_none rfl _ _ _) rfl ?_
    exact ⟨rfl, O2.out, K2.out⟩
theorem lenI_any (x : Int) (w : World) (h0 : 0 ≤ x) (h1 : x ≤ 18446744073709551615) :
    Calls Try.prog 63 #[.int .u64 x] w fun e w' => e = .returned (.int .i64 (Lib.bitLen x.toNat)) ∧ w = w' := by
  have LN := Lib.hid (fun w0 => len64 x w0 h0 h1)
  go_enter Try.func63, Try.ntmps63
  go_wp2_with fail
  refine (LN.out _).mono ?_
  rintro e w2 ⟨rfl, rfl⟩
  go_wp2
  go_ret
  exact ⟨rfl, rfl⟩
theorem sortI_any (l : List Int) (base : Nat) (A : Option Addr) (n cap : Nat) (w : World) (hn : n ≤ 12) (h : OwnI w base A n cap l) :
    Calls Try.prog 37 #[.slice A n cap] w fun e w' => e = .returned (.tuple #[]) ∧ OwnI w' base A n cap (isort keyI l) ∧ Keep (blockOf A) w w' := by
  have LN := Lib.hid (fun w0 => lenI_any (n : Int) w0 (by omega) (by omega))
  have PQ := Lib.hid (fun lim => pdq_any l base A n cap lim w hn h)
  have nw : IntKind.u64.wrap (n : Int) = n := IntWalk.u64_in _ (by omega)
  clear h
  go_enter Try.func37, Try.ntmps37
  go_wp2_with fail
  refine (LN.out _).mono ?_
  rintro e w2 ⟨rfl, rfl⟩
  go_wp2_with fail
  refine (PQ.out _).mono ?_
  rintro e w2 ⟨rfl, o2, k2⟩
  have O2 := Lib.hid o2; have K2 := Lib.hid k2
  clear o2 k2 PQ
  go_wp2
  go_end0
  exact ⟨rfl, O2.out, K2.out⟩
theorem iAt_mem {l : List Int} {i : Nat} (hi : i < l.length) : iAt l i ∈ l := by
  unfold iAt
  rw [List.getD_eq_getElem?_getD, List.getElem?_eq_getElem hi]
  exact List.getElem_mem hi
theorem mem_iAt {l : List Int} {z : Int} (h : z ∈ l) : ∃ i, i < l.length ∧ iAt l i = z := by
  obtain ⟨i, hi, e⟩ := List.mem_iff_getElem.1 h
  refine ⟨i, hi, ?_⟩
  unfold iAt
  rw [List.getD_eq_getElem?_getD, List.getElem?_eq_getElem hi]
  exact e
theorem rise_iAt {l : List Int} (h : Rise keyI l) {a b : Nat} (hab : a ≤ b) (hb : b < l.length) : iAt l a ≤ iAt l b := by
  rcases Nat.lt_or_ge a b with e | e
  · have := List.pairwise_iff_getElem.1 h a b (by omega) hb e
    unfold iAt
    rw [List.getD_eq_getElem?_getD, List.getElem?_eq_getElem (by omega), List.getD_eq_getElem?_getD, List.getElem?_eq_getElem hb]
    exact this
  · obtain rfl : a = b := by omega
    exact Int.le_refl _
set_option maxHeartbeats 2000000 in
theorem searchI_any (l : List Int) (base : Nat) (A : Option Addr) (n cap : Nat) (t : Int) (w : World) (hn : n ≤ 1000) (ht : I64x t) (h : OwnI w base A n cap l) (hs : Rise keyI l) :
    Calls Try.prog 38 #[.slice A n cap, .int .i64 t] w fun e w' => (∃ i : Int, e = .returned (.tuple #[.int .i64 i, .bool (decide (t ∈ l))])) ∧ w = w' := by
  have H := Lib.hid h; have HS := Lib.hid hs; have HL := Lib.hid h.2.1
  obtain ⟨t0, t1⟩ := id ht
  have HT := Lib.hid ht
  clear h hs ht
  go_enter Try.func38, Try.ntmps38
  go_wp2
  go_loopw [7, 8, 9] (fun iv jv _ wr => ∃ i j : Nat, i ≤ j ∧ j ≤ n ∧ iv = .int .i64 i ∧ jv = .int .i64 j ∧ (∀ k, k < i → iAt l k < t) ∧ (∀ k, j ≤ k → k < n → t ≤ iAt l k) ∧ w = wr) (fun iv jv _ _ => (intOf jv).toNat - (intOf iv).toNat)
  case atStart => exact ⟨0, n, by omega, by omega, rfl, rfl, fun k hk => by omega, fun k h1 h2 => by omega, rfl⟩
  case round =>
    obtain ⟨i, j, hij, hjn, rfl, rfl, hlo, hhi, rfl⟩ := hrel
    have LO := Lib.hid hlo; have HI := Lib.hid hhi
    clear hlo hhi
    by_cases hlt : i < j
    · have i1 : decide ((i : Int) < (j : Int)) = true := by rw [decide_eq_true_eq]; omega
      obtain ⟨g, rfl, hgx⟩ := H.out.1.at (by omega)
      clear hgx
      obtain ⟨m, hm⟩ : ∃ m, m = (i + j) / 2 := ⟨_, rfl⟩
      have m0 : i ≤ m := by omega
      have m1 : m < j := by omega
      have c0 := H.out.cell m (by omega)
      have cok := H.out.2.2 m (by omega)
      have LE := Lib.hid (lessI_any (iAt l m) t w cok HT.out)
      have aw : IntKind.i64.wrap ((i : Int) + (j : Int)) = (i : Int) + j := IntWalk.i64_in _ (by omega)
      have uw : IntKind.u64.wrap ((i : Int) + (j : Int)) = (i : Int) + j := IntWalk.u64_in _ (by omega)
      have sh : ((i : Int) + (j : Int)) / 2 = (m : Int) := by omega
      have mw : IntKind.i64.wrap (m : Int) = m := IntWalk.i64_in _ (by omega)
      have muw : IntKind.u64.wrap (m : Int) = m := IntWalk.u64_in _ (by omega)
      have mw1 : IntKind.i64.wrap ((m : Int) + 1) = (m : Int) + 1 := IntWalk.i64_in _ (by omega)
      have b1 : (m : Int) < (n : Int) := by omega
      have b2 : m < n := by omega
      obtain ⟨y, hy⟩ : ∃ y, iAt l m = y := ⟨_, rfl⟩
      rw [hy] at c0 LE
      have HY := Lib.hid hy
      have HM := Lib.hid hm
      obtain ⟨q, hq⟩ : ∃ q, decide (y < t) = q := ⟨_, rfl⟩
      rw [hq] at LE
      have HQ := Lib.hid hq
      clear hm hy cok hq
      go_wp2_with fail
      refine LE.out.mono ?_
      rintro e w2 ⟨rfl, rfl⟩
      clear LE
      cases q
      · go_wp2
        go_roundw
        case rel =>
          refine ⟨i, m, by omega, by omega, rfl, rfl, LO.out, fun k h1 h2 => ?_, by first | rfl | trivial⟩
          have := rise_iAt HS.out h1 (by rw [HL.out]; exact h2)
          have q := HQ.out
          rw [decide_eq_false_iff_not] at q
          rw [HY.out] at this
          omega
        case measure => simp [intOf]; omega
      · go_wp2
        go_roundw
        case rel =>
          refine ⟨m + 1, j, by omega, by omega, by go_num, rfl, fun k hk => ?_, HI.out, by first | rfl | trivial⟩
          have := rise_iAt HS.out (a := k) (b := m) (by omega) (by rw [HL.out]; exact b2)
          have q := HQ.out
          rw [decide_eq_true_eq] at q
          rw [HY.out] at this
          omega
        case measure => simp [intOf]; omega
    · obtain rfl : i = j := by omega
      have i1 : decide ((i : Int) < (i : Int)) = false := by simp
      by_cases hin : i < n
      · have i2 : decide ((i : Int) < (n : Int)) = true := by rw [decide_eq_true_eq]; omega
        have i3 : (i : Int) < (n : Int) := by omega
        obtain ⟨g, rfl, hgx⟩ := H.out.1.at (by omega)
        clear hgx
        have c0 := H.out.cell i hin
        have MI : Hid (decide (iAt l i = t) = decide (t ∈ l)) := Lib.hid (by
          rw [decide_eq_decide]
          constructor
          · intro e; rw [← e]; exact iAt_mem (by rw [HL.out]; exact hin)
          · intro e
            obtain ⟨k, hk, ek⟩ := mem_iAt e
            rw [HL.out] at hk
            rcases Nat.lt_or_ge k i with c | c
            · have := LO.out k c; omega
            · have h1 := rise_iAt HS.out c (by rw [HL.out]; exact hk)
              have h2 := HI.out i (Nat.le_refl _) hin
              omega)
        obtain ⟨y, hy⟩ : ∃ y, iAt l i = y := ⟨_, rfl⟩
        rw [hy] at c0 MI
        clear hy
        by_cases hyt : y = t
        · have d1 : decide (y = t) = true := by rw [decide_eq_true_eq]; exact hyt
          have d2 : (y == t) = true := by rw [beq_iff_eq]; exact hyt
          rw [d1] at MI
          clear hyt d1
          go_wp2
          go_ret2
          exact ⟨⟨i, by rw [← MI.out]; rfl⟩, rfl⟩
        · have d1 : decide (y = t) = false := by rw [decide_eq_false_iff_not]; exact hyt
          have d2 : (y == t) = false := by rw [beq_eq_false_iff_ne]; exact hyt
          rw [d1] at MI
          clear hyt d1
          go_wp2
          go_ret2
          exact ⟨⟨i, by rw [← MI.out]; rfl⟩, rfl⟩
      · have i2 : decide ((i : Int) < (n : Int)) = false := by rw [decide_eq_false_iff_not]; omega
        have MI : Hid (false = decide (t ∈ l)) := Lib.hid (by
          symm
          rw [decide_eq_false_iff_not]
          intro e
          obtain ⟨k, hk, ek⟩ := mem_iAt e
          rw [HL.out] at hk
          have := LO.out k (by omega)
          omega)
        go_wp2
        go_ret2
        exact ⟨⟨i, by rw [← MI.out]; rfl⟩, rfl⟩
/-- A slice of ints that reads as a list, in blocks below N. -/
def IR (w : World) (N : Nat) (A : Option Addr) (l : List Int) : Prop := ∀ i, i < l.length → ∃ b o, A = some ⟨b, o, none⟩ ∧ b < N ∧ w.cell? ⟨b, o + i, none⟩ = some (.int .i64 (iAt l i)) ∧ I64x (iAt l i)
theorem IR.below {w w' : World} {N : Nat} {A : Option Addr} {l : List Int} (h : IR w N A l) (hb : Below N w w') : IR w' N A l := fun i hi => by
  obtain ⟨b, o, h1, h2, h3, h4⟩ := h i hi
  exact ⟨b, o, h1, h2, by rw [hb.cell (p := ⟨b, o + i, none⟩) h2]; exact h3, h4⟩
theorem IR.more {w : World} {N N' : Nat} {A : Option Addr} {l : List Int} (h : IR w N A l) (hb : N ≤ N') : IR w N' A l := fun i hi => by
  obtain ⟨b, o, h1, h2, h3⟩ := h i hi
  exact ⟨b, o, h1, by omega, h3⟩
theorem Try.info_int : (Try.prog.info? 3).map (fun i => (i.zero, i.size, i.bytes)) = some (some (.int .i64 0), 1, 8) := by kernel_rfl
theorem IR.src {w : World} {N : Nat} {ad : Addr} {l : List Int} (h : IR w N (some ad) l) (j : Nat) (u : Value) (hu : (ivs l)[j]? = some u) : w.cell? (ad.add j) = some u := by
  have hj : j < l.length := by
    rcases Nat.lt_or_ge j l.length with e | e
    · exact e
    · rw [List.getElem?_eq_none (by rw [ivs_len]; exact e)] at hu; cases hu
  obtain ⟨b', o', e, _, hc, _⟩ := h j hj
  injection e with e
  subst e
  rw [Addr.add_mid, hc, ← hu, ivs_at l j hj]
theorem cloneI_any (l : List Int) (N : Nat) (A : Option Addr) (n cap : Nat) (w : World) (hl : l.length = n) (hn : n ≤ 1000) (h : IR w N A l) (hN : N ≤ w.heap.size) :
    Calls Try.prog 36 #[.slice A n cap] w fun e w' => ∃ A' c', e = .returned (.slice A' n c') ∧ OwnI w' w.heap.size A' n c' l ∧ Below w.heap.size w w' := by
  cases A with
  | none =>
    have h0 : n = 0 := by
      rcases Nat.eq_zero_or_pos n with e | e
      · exact e
      · obtain ⟨b, o, e, _⟩ := h 0 (by omega); cases e
    subst h0
    have : l = [] := List.eq_nil_of_length_eq_zero hl
    subst this
    have en := eql_nil 28 3 none 0 cap Try.underlying28
    clear h hl
    go_enter Try.func36, Try.ntmps36
    go_wp2
    go_ret
    exact ⟨none, 0, rfl, OwnI.nil _ _, Below.refl _ _⟩
  | some ad =>
    have H := Lib.hid h; have HL := Lib.hid hl
    have OK : Hid (∀ i, i < n → I64x (iAt l i)) := Lib.hid (fun i hi => by obtain ⟨_, _, _, _, _, q⟩ := h i (by rw [hl]; exact hi); exact q)
    have en := eql_nil 28 3 (some ad) n cap Try.underlying28
    have H2 := Lib.hid (h.below (((Below.refl _ w).alloc (Nat.le_refl _) (.cells #[] 3)).mono hN))
    clear h hl
    go_enter Try.func36, Try.ntmps36
    go_wp2_with (at_builtin; go_loud (refine app_rowsN _ rfl _ _ 28 3 rfl Try.underlying28 _ 1 8 Try.info_int (by rfl) (by decide) (by decide) w.heap.size w.heap.size 0 0 [] rfl (RowN.empty w _ _ _ (Nat.le_refl _)) ad n cap (ivs l) (by rw [ivs_len, HL.out, Nat.mul_one]) rfl H2.out.src (ivs_one l) (by omega) (by simp) ?_))
    intro g' c'' w' r1 r2
    have r1 : RowN w' w.heap.size 3 1 (some ⟨g', 0, none⟩) n c'' (ivs l) := r1
    have R1 := Lib.hid r1
    have B1 : Hid (Below w.heap.size w w') := Lib.hid (Below.grown (Below.alloc (Below.refl _ w) (Nat.le_refl _) (.cells #[] 3)) r2 (by simp) (fun k hk => by injection hk with hk; omega))
    clear r1 r2
    go_wp2
    go_ret
    exact ⟨some ⟨g', 0, none⟩, c'', rfl, ⟨R1.out, HL.out, OK.out⟩, B1.out⟩
theorem FlR.src {w : World} {N : Nat} {ad : Addr} {l : List Fl} (h : FlR w N (some ad) l) (j : Nat) (u : Value) (hu : (flvs l)[j]? = some u) : w.cell? (ad.add j) = some u := by
  have hj : j < l.length * 4 := by
    rcases Nat.lt_or_ge j (l.length * 4) with e | e
    · exact e
    · rw [List.getElem?_eq_none (by rw [flvs_len]; exact e)] at hu; cases hu
  obtain ⟨i, r, hr, rfl⟩ : ∃ i r, r < 4 ∧ j = i * 4 + r := ⟨j / 4, j % 4, by omega, by omega⟩
  rw [flvs_at l i r (by omega) hr] at hu
  obtain ⟨b', o', e, _, h0, h1, h2, h3, _⟩ := h i (by omega)
  injection e with e
  subst e
  rw [Addr.add_mid, ← hu]
  have : r = 0 ∨ r = 1 ∨ r = 2 ∨ r = 3 := by omega
  rcases this with rfl | rfl | rfl | rfl
  · exact h0
  · exact h1
  · exact h2
  · exact h3
theorem flvs_one (l : List Fl) (u : Value) (h : u ∈ flvs l) : u.oneCell' = true := by
  unfold flvs at h
  obtain ⟨f, _, hf⟩ := List.mem_flatMap.1 h
  exact flv_one f u hf
theorem cloneF_any (l : List Fl) (N : Nat) (A : Option Addr) (n cap : Nat) (w : World) (hl : l.length = n) (hn : n ≤ 1000) (h : FlR w N A l) (hN : N ≤ w.heap.size) :
    Calls Try.prog 52 #[.slice A n cap] w fun e w' => ∃ A' c', e = .returned (.slice A' n c') ∧ OwnF w' w.heap.size A' n c' l ∧ Below w.heap.size w w' := by
  cases A with
  | none =>
    have h0 : n = 0 := by
      rcases Nat.eq_zero_or_pos n with e | e
      · exact e
      · obtain ⟨b, o, e, _⟩ := h 0 (by omega); cases e
    subst h0
    have : l = [] := List.eq_nil_of_length_eq_zero hl
    subst this
    have en := eql_nil 25 33 none 0 cap Try.underlying25
    clear h hl
    go_enter Try.func52, Try.ntmps52
    go_wp2
    go_ret
    exact ⟨none, 0, rfl, OwnF.nil _ _, Below.refl _ _⟩
  | some ad =>
    have H := Lib.hid h; have HL := Lib.hid hl
    have OK : Hid (∀ i, i < l.length → (flAt l i).Ok) := Lib.hid (fun i hi => by obtain ⟨_, _, _, _, _, _, _, _, q⟩ := h i hi; exact q)
    have en := eql_nil 25 33 (some ad) n cap Try.underlying25
    have H2 := Lib.hid (h.below (((Below.refl _ w).alloc (Nat.le_refl _) (.cells #[] 33)).mono hN))
    clear h hl
    go_enter Try.func52, Try.ntmps52
    go_wp2_with (at_builtin; go_loud (refine app_rowsN _ rfl _ _ 25 33 rfl Try.underlying25 _ 4 32 Try.info_file (by rfl) (by decide) (by decide) w.heap.size w.heap.size 0 0 [] rfl (RowN.empty w _ _ _ (Nat.le_refl _)) ad n cap (flvs l) (by rw [flvs_len, HL.out]) rfl H2.out.src (flvs_one l) (by omega) (by simp) ?_))
    intro g' c'' w' r1 r2
    have r1 : RowN w' w.heap.size 33 4 (some ⟨g', 0, none⟩) n c'' (flvs l) := r1
    have R1 := Lib.hid r1
    have B1 : Hid (Below w.heap.size w w') := Lib.hid (Below.grown (Below.alloc (Below.refl _ w) (Nat.le_refl _) (.cells #[] 33)) r2 (by simp) (fun k hk => by injection hk with hk; omega))
    clear r1 r2
    go_wp2
    go_ret
    exact ⟨some ⟨g', 0, none⟩, c'', rfl, ⟨R1.out, HL.out, OK.out⟩, B1.out⟩
/-- One int more. -/
theorem app_i (w : World) {ops : Array Oper} {rs : List Oper} {o : Oper} {a : Act} {Q : Exit → Act → World → Prop} (hgd : o.guard = none)
    (s x : Operand) (ho : o.op = .call { callee := .builtin .append, args := #[s, x], argTypes := #[28, 28] })
    (base n cap : Nat) (A : Option Addr) (l : List Int) (hs : a.eval s = .slice A n cap) (hown : OwnI w base A n cap l)
    (b' : Nat) (c : Nat) (v : Int) (hx : a.eval x = .slice (some ⟨b', 0, none⟩) 1 c) (hr : w.cell? ⟨b', 0, none⟩ = some (.int .i64 v)) (hf : I64x v)
    (hl : n ≤ 1000000) (hbase : base ≤ w.heap.size)
    (h : ∀ g' cap' w', OwnI w' base (some ⟨g', 0, none⟩) (n + 1) cap' (l ++ [v]) → FlKeep A g' w w' → wpList Try.prog ops Q rs (a.put o.dst (.slice (some ⟨g', 0, none⟩) (n + 1) cap')) w') :
    wpList Try.prog ops Q (o :: rs) a w := by
  obtain ⟨i0, hi, hz0, hz1, hz2⟩ := info_parts Try.info_int
  have hsrc : ∀ (j : Nat) (u : Value), (ivs [v])[j]? = some u → w.cell? ((⟨b', 0, none⟩ : Addr).add j) = some u := fun j u hu => by
    cases j with
    | zero =>
      have e : some (Value.int .i64 v) = some u := hu
      rw [← e, Addr.add_mid]; exact hr
    | succ j => cases hu
  refine wpList_append_lies w hgd s x 28 ho base 3 i0 _ 1 8 Try.underlying28 hi hz0 hz1 hz2 rfl (by decide) _ n (ivs l) hs hown.1 ⟨b', 0, none⟩ 1 c (ivs [v]) hx rfl hsrc (ivs_one [v]) (by decide) (by unfold maxLen; omega) (by omega) hbase w.heap.size rfl ?_
  intro g' cap' w' h1 h2 h3 _
  refine h g' cap' w' ⟨?_, by rw [List.length_append, hown.2.1]; rfl, fun i hi => ?_⟩ (flKeep_of h2 (by rcases h3 with e | e; exact Or.inl e; exact Or.inr (by omega)))
  · have e : ivs (l ++ [v]) = ivs l ++ ivs [v] := by unfold ivs; rw [List.map_append]
    rw [e]; exact h1
  · rw [iAt_snoc]
    have hl := hown.2.1
    split
    · exact hown.2.2 i (by omega)
    · rw [if_pos (by omega)]; exact hf
end Go.Proofs.Ytoolmmjiemkpbaa
namespace Go.Proofs.Ytoolmmjiemkpbaa
set_option linter.unusedVariables false
set_option linter.unusedSimpArgs false
set_option maxRecDepth 100000
open Go.RowKit

def isLast (s : List Fl) (j : Nat) : Bool := decide (j + 1 = s.length) || !decide ((flAt s (j + 1)).name = (flAt s j).name)
def lastsTo (s : List Fl) (i : Nat) : List Fl := ((List.range i).filter (isLast s)).map (flAt s)
theorem lastsTo_succ (s : List Fl) (i : Nat) : lastsTo s (i + 1) = lastsTo s i ++ (if isLast s i then [flAt s i] else []) := by
  unfold lastsTo
  rw [List.range_succ, List.filter_append, List.map_append, List.filter_cons]
  split <;> rfl
theorem isLast_cons (x : Fl) (s : List Fl) (j : Nat) : isLast (x :: s) (j + 1) = isLast s j := by
  unfold isLast
  have e : decide (j + 1 + 1 = (x :: s).length) = decide (j + 1 = s.length) := by rw [decide_eq_decide, List.length_cons]; omega
  rw [e]
  rfl
theorem lastsTo_cons (x : Fl) (s : List Fl) (i : Nat) : lastsTo (x :: s) (i + 1) = (if isLast (x :: s) 0 then [x] else []) ++ lastsTo s i := by
  unfold lastsTo
  rw [List.range_succ_eq_map, List.filter_cons, List.filter_map]
  have e : (isLast (x :: s) ∘ Nat.succ) = isLast s := by funext j; exact isLast_cons x s j
  have e2 : ∀ l : List Nat, (l.map Nat.succ).map (flAt (x :: s)) = l.map (flAt s) := fun l => by rw [List.map_map]; rfl
  rw [e]
  split
  · rw [List.map_cons, e2]; rfl
  · rw [e2]; rfl
theorem lasts_to : ∀ s : List Fl, lasts Fl.name s = lastsTo s s.length
  | [] => rfl
  | [x] => rfl
  | x :: y :: r => by
    have ih := lasts_to (y :: r)
    have e0 : lasts Fl.name (x :: y :: r) = if y.name = x.name then lasts Fl.name (y :: r) else x :: lasts Fl.name (y :: r) := by rw [lasts]
    rw [List.length_cons, lastsTo_cons, ← ih, e0]
    have e : isLast (x :: y :: r) 0 = !decide (y.name = x.name) := by
      unfold isLast
      have : decide (0 + 1 = (x :: y :: r).length) = false := by rw [decide_eq_false_iff_not, List.length_cons, List.length_cons]; omega
      rw [this]; rfl
    rw [e]
    by_cases h : y.name = x.name
    · rw [if_pos h, if_neg (by simp [h])]; rfl
    · rw [if_neg h, if_pos (by simp [h])]; rfl
theorem lastsTo_len (s : List Fl) (i : Nat) : (lastsTo s i).length ≤ i := by
  unfold lastsTo
  rw [List.length_map]
  have := List.length_filter_le (isLast s) (List.range i)
  rw [List.length_range] at this
  exact this
theorem FlKeep.below {A : Option Addr} {g B : Nat} {w0 w w' : World} (h : FlKeep A g w w') (hA : ∀ a, A = some a → B ≤ a.block) (hb : Below B w0 w) (hB : B ≤ w.heap.size) : Below B w0 w' :=
  h.1.below (fun k ⟨a, ha, hk⟩ => by rw [hk]; exact hA a ha) hb hB
theorem OwnF.fk {w w' : World} {base n cap g' : Nat} {A A3 : Option Addr} {l : List Fl} (h : OwnF w base A n cap l) (k : FlKeep A3 g' w w') (hne : ∀ a b, A = some a → A3 = some b → a.block ≠ b.block) : OwnF w' base A n cap l :=
  h.same (fun a ha => k.1.block a.block (h.lt a ha).2 (fun ⟨b, hb, e⟩ => hne a b ha hb e))
theorem OwnI.fk {w w' : World} {base n cap g' : Nat} {A A3 : Option Addr} {l : List Int} (h : OwnI w base A n cap l) (k : FlKeep A3 g' w w') (hne : ∀ a b, A = some a → A3 = some b → a.block ≠ b.block) : OwnI w' base A n cap l :=
  h.same (fun a ha => k.1.block a.block (h.lt a ha).2 (fun ⟨b, hb, e⟩ => hne a b ha hb e))
set_option maxHeartbeats 4000000 in
theorem lastO_any (l : List Fl) (N : Nat) (A : Option Addr) (n cap : Nat) (w : World) (hl : l.length = n) (hn : n ≤ 20) (h : FlR w N A l) (hN : N ≤ w.heap.size) :
    Calls Try.prog 35 #[.slice A n cap] w fun e w' => ∃ A' m c', e = .returned (.slice A' m c') ∧ OwnF w' w.heap.size A' m c' (lasts Fl.name (isort Fl.name l)) ∧ Below w.heap.size w w' := by
  have CL := Lib.hid (cloneF_any l N A n cap w hl (by omega) h hN)
  have SL : Hid ((isort Fl.name l).length = n) := Lib.hid (by rw [isort_length]; exact hl)
  have SOA : Hid (∀ A1 c1 w1, OwnF w1 w.heap.size A1 n c1 l → Calls Try.prog 39 #[.slice A1 n c1, .func (.func 40) #[] #[]] w1 fun e w' => e = .returned (.tuple #[]) ∧ OwnF w' w.heap.size A1 n c1 (isort Fl.name l) ∧ Keep (blockOf A1) w1 w') := Lib.hid (fun A1 c1 w1 o => sortF_any l w.heap.size A1 n c1 w1 hn o)
  obtain ⟨s, hs⟩ : ∃ s, isort Fl.name l = s := ⟨_, rfl⟩
  rw [hs] at SL SOA ⊢
  rw [lasts_to, SL.out]
  clear h hl hs
  go_enter Try.func35, Try.ntmps35
  go_wp2_with fail
  refine CL.out.mono ?_
  rintro e w1 ⟨A1, c1, rfl, o1, b1⟩
  have SO := Lib.hid (SOA.out A1 c1 w1 o1)
  have B1 := Lib.hid b1
  have hA1 : Hid (∀ a, A1 = some a → w.heap.size ≤ a.block) := Lib.hid (fun a ha => (o1.lt a ha).1)
  clear o1 b1 CL
  go_wp2_with fail
  refine SO.out.mono ?_
  rintro e w2 ⟨rfl, o2, k2⟩
  have O2 := Lib.hid o2
  have B2 := Lib.hid (k2.below (fun k ⟨a, ha, hk⟩ => by rw [hk]; exact hA1.out a ha) B1.out B1.out.size)
  clear o2 k2 SO
  clear SOA
  have hO2 : Hid (∀ a, A1 = some a → a.block < w2.heap.size) := Lib.hid (fun a ha => (O2.out.lt a ha).2)
  go_wp2
  go_loopw [4, 5, 6, 13] (fun lv _ _ iv wr => ∃ (i : Nat) (A3 : Option Addr) (m c3 : Nat), i ≤ n ∧ iv = .int .i64 i ∧ lv = .slice A3 m c3 ∧ OwnF wr w2.heap.size A3 m c3 (lastsTo s i) ∧ OwnF wr w.heap.size A1 n c1 s ∧ Below w2.heap.size w2 wr) (fun _ _ _ iv _ => n - (intOf iv).toNat)
  case atStart => exact ⟨0, none, 0, 0, Nat.zero_le _, rfl, rfl, OwnF.nil _ _, O2.out, Below.refl _ _⟩
  case round =>
    obtain ⟨i, A3, m, c3, hi, rfl, rfl, o3, ow, bw⟩ := hrel
    have O3 := Lib.hid o3; have OW := Lib.hid ow; have BW := Lib.hid bw
    have hml : m ≤ 20 := by have := o3.2.1; have := lastsTo_len s i; omega
    have hsz := bw.size
    clear o3 ow bw
    by_cases hlt : i < n
    · have i1 : decide ((i : Int) < (n : Int)) = true := by rw [decide_eq_true_eq]; omega
      obtain ⟨g1, e1, hgx⟩ := OW.out.1.at (by omega)
      subst e1
      clear hgx
      obtain ⟨z0, z1, z2, z3, fok⟩ := OW.out.cells4 i hlt
      have SN := Lib.hid (lastsTo_succ s i)
      have hg1 := (OW.out.lt _ rfl).2
      have hg12 : g1 < w2.heap.size := hO2.out _ rfl
      obtain ⟨f, hf⟩ : ∃ f, flAt s i = f := ⟨_, rfl⟩
      rw [hf] at z0 z1 z2 z3 fok SN
      obtain ⟨⟨n0, n1⟩, _⟩ := id fok
      have FOK := Lib.hid fok; have HF := Lib.hid hf
      have iw : IntKind.i64.wrap ((i : Int) + 1) = (i : Int) + 1 := IntWalk.i64_in _ (by omega)
      have bi : (i : Int) < (n : Int) := by omega
      clear hf fok
      go_upto_region 7 with fail
      obtain ⟨W, hW⟩ : ∃ W, W = wr.alloc (.cells #[.int .i64 f.name, .int .i64 f.file, .int .i64 f.first, .int .i64 f.blocks] 33) := ⟨_, rfl⟩
      rw [← hW]
      obtain ⟨g, hg⟩ : ∃ g, g = wr.heap.size := ⟨_, rfl⟩
      rw [← hg]
      have hbW : Below wr.heap.size wr W := by rw [hW]; exact (Below.refl _ _).alloc (Nat.le_refl _) _
      have LF : Hid (FlV W g f) := Lib.hid (by rw [hW, hg]; exact FlV.new wr f)
      have OW1 := Lib.hid (OW.out.below hbW)
      have O31 := Lib.hid (O3.out.below hbW)
      have BW1 := Lib.hid (bstep BW.out hbW)
      have hszW : w2.heap.size ≤ W.heap.size := by have := hbW.size; omega
      have hgne : g1 ≠ g := by
        have : g1 < wr.heap.size := hg1
        omega
      clear hW hg hbW z0 z1 z2 z3 OW O3 BW
      obtain ⟨y0, y1, y2, y3⟩ := LF.out.cells
      have tail : ∀ (q : Nat), Hid (OwnF (W.drewN q) w.heap.size (some ⟨g1, 0, none⟩) n c1 s ∧ OwnF (W.drewN q) w2.heap.size A3 m c3 (lastsTo s i) ∧ Below w2.heap.size w2 (W.drewN q)) := fun q => Lib.hid ⟨OW1.out.same (fun _ _ => rfl), O31.out.same (fun _ _ => rfl), ⟨BW1.out.os, BW1.out.tape, BW1.out.output, BW1.out.size, BW1.out.block⟩⟩
      by_cases hend : i + 1 = n
      · have e1 : decide ((i : Int) + 1 = (n : Int)) = true := by rw [decide_eq_true_eq]; omega
        have e2 : ((i : Int) + 1 == (n : Int)) = true := by rw [beq_iff_eq]; omega
        have SN2 : Hid (lastsTo s (i + 1) = lastsTo s i ++ [f]) := Lib.hid (by rw [SN.out, if_pos (by unfold isLast; rw [SL.out, hend]; simp)])
        clear hend
        go_wp2
        go_quiet (fail)
        go_wp2_with (at_builtin; go_loud (refine app_fl _ rfl _ _ rfl w2.heap.size m c3 A3 (lastsTo s i) rfl ((tail _).out.2.1.alloc _) W.heap.size 0 1 f rfl (FlAt4.new (W.drewN nq) f _ _) FOK.out (by omega) (by simp; omega) ?_))
        intro g' cap' w' o' fk
        have TQ := tail nq
        have O' : Hid (OwnF w' w2.heap.size (some ⟨g', 0, none⟩) (m + 1) cap' (lastsTo s (i + 1))) := Lib.hid (by rw [SN2.out]; exact o')
        have hA3 : ∀ a, A3 = some a → w2.heap.size ≤ a.block := fun a ha => (O31.out.lt a ha).1
        have OW' := Lib.hid ((TQ.out.1.alloc _).fk fk (fun a b ha hb => by injection ha with ha; subst ha; have := hA3 b hb; show g1 ≠ b.block; omega))
        have BW' := Lib.hid (fk.below hA3 (TQ.out.2.2.alloc (by exact hszW) _) (by simp; omega))
        clear o' fk hA3 TQ
        go_wp2
        go_roundw
        case rel => exact ⟨i + 1, some ⟨g', 0, none⟩, m + 1, cap', by omega, by go_num, rfl, O'.out, OW'.out, BW'.out⟩
        case measure => simp [intOf]; omega
      · have e1 : decide ((i : Int) + 1 = (n : Int)) = false := by rw [decide_eq_false_iff_not]; omega
        have e2 : ((i : Int) + 1 == (n : Int)) = false := by rw [beq_eq_false_iff_ne]; omega
        have hlt2 : i + 1 < n := by omega
        have bi2 : (i : Int) + 1 < (n : Int) := by omega
        have bi0 : (0 : Int) ≤ (i : Int) + 1 := by omega
        obtain ⟨v0, _⟩ := OW1.out.cells4 (i + 1) hlt2
        have vok := (OW1.out.2.2 (i + 1) (by rw [SL.out]; omega)).a
        obtain ⟨nx, hnx⟩ : ∃ nx, (flAt s (i + 1)).name = nx := ⟨_, rfl⟩
        rw [hnx] at v0 vok
        obtain ⟨k0, k1⟩ := vok
        by_cases hne : nx = f.name
        · have d1 : decide (nx = f.name) = true := by rw [decide_eq_true_eq]; exact hne
          have d2 : (nx == f.name) = true := by rw [beq_iff_eq]; exact hne
          have d3 : (nx != f.name) = false := by rw [bne_eq_false_iff_eq]; exact hne
          have SN2 : Hid (lastsTo s (i + 1) = lastsTo s i) := Lib.hid (by rw [SN.out, if_neg, List.append_nil]; unfold isLast; rw [SL.out, HF.out, hnx, hne]; simp; omega)
          clear hnx hne hend
          go_wp2
          go_quiet (fail)
          go_wp2
          go_roundw
          case rel => exact ⟨i + 1, A3, m, c3, by omega, by go_num, rfl, by rw [SN2.out]; exact (tail nq).out.2.1, (tail nq).out.1, (tail nq).out.2.2⟩
          case measure => simp [intOf]; omega
        · have d1 : decide (nx = f.name) = false := by rw [decide_eq_false_iff_not]; exact hne
          have d2 : (nx == f.name) = false := by rw [beq_eq_false_iff_ne]; exact hne
          have d3 : (nx != f.name) = true := by rw [bne_iff_ne]; exact hne
          have SN2 : Hid (lastsTo s (i + 1) = lastsTo s i ++ [f]) := Lib.hid (by rw [SN.out, if_pos]; unfold isLast; rw [HF.out, hnx]; simp [hne])
          clear hnx hne hend
          go_wp2
          go_quiet (fail)
          go_wp2_with (at_builtin; go_loud (refine app_fl _ rfl _ _ rfl w2.heap.size m c3 A3 (lastsTo s i) rfl ((tail _).out.2.1.alloc _) W.heap.size 0 1 f rfl (FlAt4.new (W.drewN nq) f _ _) FOK.out (by omega) (by simp; omega) ?_))
          intro g' cap' w' o' fk
          have TQ := tail nq
          have O' : Hid (OwnF w' w2.heap.size (some ⟨g', 0, none⟩) (m + 1) cap' (lastsTo s (i + 1))) := Lib.hid (by rw [SN2.out]; exact o')
          have hA3 : ∀ a, A3 = some a → w2.heap.size ≤ a.block := fun a ha => (O31.out.lt a ha).1
          have OW' := Lib.hid ((TQ.out.1.alloc _).fk fk (fun a b ha hb => by injection ha with ha; subst ha; have := hA3 b hb; show g1 ≠ b.block; omega))
          have BW' := Lib.hid (fk.below hA3 (TQ.out.2.2.alloc (by exact hszW) _) (by simp; omega))
          clear o' fk hA3 TQ
          go_wp2
          go_roundw
          case rel => exact ⟨i + 1, some ⟨g', 0, none⟩, m + 1, cap', by omega, by go_num, rfl, O'.out, OW'.out, BW'.out⟩
          case measure => simp [intOf]; omega
    · obtain rfl : i = n := by omega
      have i1 : decide ((i : Int) < (i : Int)) = false := by simp
      go_wp2
      go_ret
      exact ⟨A3, m, c3, rfl, O3.out.weak (fun a ha => by have := (O3.out.lt a ha).1; have := B2.out.size; omega), bstep B2.out BW.out⟩
end Go.Proofs.Ytoolmmjiemkpbaa
namespace Go.Proofs.Ytoolmmjiemkpbaa
set_option linter.unusedVariables false
set_option linter.unusedSimpArgs false
set_option maxRecDepth 100000
open Go.RowKit

theorem CtAt.fk {w w' : World} {b n cap g' : Nat} {c : Ct} {A A3 : Option Addr} (h : CtAt w b c A n cap) (k : FlKeep A3 g' w w') (hne : ∀ a, A3 = some a → b ≠ a.block) : CtAt w' b c A n cap := by
  unfold CtAt Arr at *
  rw [k.1.block b (by
    rcases Nat.lt_or_ge b w.heap.size with e | e
    · exact e
    · rw [Array.getElem?_eq_none (by exact e)] at h; cases h) (fun ⟨a, ha, e⟩ => hne a ha e)]
  exact h
theorem ct_ne_f {w : World} {b n cap base m c1 : Nat} {c : Ct} {A A1 : Option Addr} {l : List Fl} (h : CtAt w b c A n cap) (o : OwnF w base A1 m c1 l) (a : Addr) (ha : A1 = some a) : b ≠ a.block := fun e => (o.1.ne (r := b) (T := 27) h (by decide) a ha) e.symm
theorem ct_ne_i {w : World} {b n cap base m c1 : Nat} {c : Ct} {A A1 : Option Addr} {l : List Int} (h : CtAt w b c A n cap) (o : OwnI w base A1 m c1 l) (a : Addr) (ha : A1 = some a) : b ≠ a.block := fun e => (o.1.ne (r := b) (T := 27) h (by decide) a ha) e.symm
theorem f_ne_i {w : World} {base m c1 base' m' c' : Nat} {A1 A2 : Option Addr} {l : List Fl} {l' : List Int} (h : OwnF w base A1 m c1 l) (o : OwnI w base' A2 m' c' l') (a b : Addr) (ha : A1 = some a) (hb : A2 = some b) : a.block ≠ b.block := fun e => by
  obtain ⟨cur, hc⟩ := h.1.kind a ha
  exact (o.1.ne (r := a.block) (T := 33) hc (by decide) b hb) e.symm
theorem OwnI.weak {w : World} {base base' : Nat} {A : Option Addr} {n cap : Nat} {l : List Int} (h : OwnI w base A n cap l) (k : ∀ a, A = some a → base' ≤ a.block) : OwnI w base' A n cap l := ⟨h.1.weak k, h.2⟩
theorem OwnI.alloc {w : World} {base : Nat} {A : Option Addr} {n cap : Nat} {l : List Int} (h : OwnI w base A n cap l) (o : Obj) : OwnI (w.alloc o) base A n cap l := h.below ((Below.refl _ _).alloc (Nat.le_refl _) o)
theorem CtAt.alloc {w : World} {b n cap : Nat} {c : Ct} {A : Option Addr} (h : CtAt w b c A n cap) (o : Obj) : CtAt (w.alloc o) b c A n cap := h.below ((Below.refl _ _).alloc (Nat.le_refl _) o)
theorem OwnF.keep {w w' : World} {base n cap : Nat} {A : Option Addr} {l : List Fl} {F : Nat → Prop} (h : OwnF w base A n cap l) (k : Keep F w w') (hne : ∀ a, A = some a → ¬ F a.block) : OwnF w' base A n cap l := h.same (fun a ha => k.block a.block (h.lt a ha).2 (hne a ha))
theorem OwnI.keep {w w' : World} {base n cap : Nat} {A : Option Addr} {l : List Int} {F : Nat → Prop} (h : OwnI w base A n cap l) (k : Keep F w w') (hne : ∀ a, A = some a → ¬ F a.block) : OwnI w' base A n cap l := h.same (fun a ha => k.block a.block (h.lt a ha).2 (hne a ha))
/-- All that With has at hand. -/
structure WS (w wr : World) (b r : Nat) (c : Ct) (A : Option Addr) (n cap : Nat) (A1 : Option Addr) (m1 c1 : Nat) (lf : List Fl) (A2 : Option Addr) (m2 c2 : Nat) (li : List Int) : Prop where
  x : CtAt wr b c A n cap
  r : CtAt wr r Ct.zero none 0 0
  f : OwnF wr w.heap.size A1 m1 c1 lf
  i : OwnI wr w.heap.size A2 m2 c2 li
  b : Below w.heap.size w wr
theorem WS.below {w wr w' : World} {b r : Nat} {c : Ct} {A : Option Addr} {n cap : Nat} {A1 : Option Addr} {m1 c1 : Nat} {lf : List Fl} {A2 : Option Addr} {m2 c2 : Nat} {li : List Int} (h : WS w wr b r c A n cap A1 m1 c1 lf A2 m2 c2 li) (hb : Below wr.heap.size wr w') : WS w w' b r c A n cap A1 m1 c1 lf A2 m2 c2 li :=
  ⟨h.x.below hb, h.r.below hb, h.f.below hb, h.i.below hb, bstep h.b hb⟩
theorem WS.appI {w wr w' : World} {b r : Nat} {c : Ct} {A : Option Addr} {n cap : Nat} {A1 : Option Addr} {m1 c1 : Nat} {lf : List Fl} {A2 : Option Addr} {m2 c2 : Nat} {li li' : List Int} {g' cap' m' : Nat} (h : WS w wr b r c A n cap A1 m1 c1 lf A2 m2 c2 li) (o : OwnI w' w.heap.size (some ⟨g', 0, none⟩) m' cap' li') (k : FlKeep A2 g' wr w') : WS w w' b r c A n cap A1 m1 c1 lf (some ⟨g', 0, none⟩) m' cap' li' :=
  ⟨h.x.fk k (fun a ha => ct_ne_i h.x h.i a ha), h.r.fk k (fun a ha => ct_ne_i h.r h.i a ha), h.f.fk k (fun a b' ha hb => f_ne_i h.f h.i a b' ha hb), o, k.below (fun a ha => (h.i.lt a ha).1) h.b h.b.size⟩
theorem WS.appF {w wr w' : World} {b r : Nat} {c : Ct} {A : Option Addr} {n cap : Nat} {A1 : Option Addr} {m1 c1 : Nat} {lf lf' : List Fl} {A2 : Option Addr} {m2 c2 : Nat} {li : List Int} {g' cap' m' : Nat} (h : WS w wr b r c A n cap A1 m1 c1 lf A2 m2 c2 li) (o : OwnF w' w.heap.size (some ⟨g', 0, none⟩) m' cap' lf') (k : FlKeep A1 g' wr w') : WS w w' b r c A n cap (some ⟨g', 0, none⟩) m' cap' lf' A2 m2 c2 li :=
  ⟨h.x.fk k (fun a ha => ct_ne_f h.x h.f a ha), h.r.fk k (fun a ha => ct_ne_f h.r h.f a ha), o, h.i.fk k (fun a b' ha hb => fun e => f_ne_i h.f h.i b' a hb ha e.symm), k.below (fun a ha => (h.f.lt a ha).1) h.b h.b.size⟩
theorem WS.sortI {w wr w' : World} {b r : Nat} {c : Ct} {A : Option Addr} {n cap : Nat} {A1 : Option Addr} {m1 c1 : Nat} {lf : List Fl} {A2 : Option Addr} {m2 c2 : Nat} {li li' : List Int} (h : WS w wr b r c A n cap A1 m1 c1 lf A2 m2 c2 li) (o : OwnI w' w.heap.size A2 m2 c2 li') (k : Keep (blockOf A2) wr w') : WS w w' b r c A n cap A1 m1 c1 lf A2 m2 c2 li' :=
  ⟨h.x.keep k (fun ⟨a, ha, e⟩ => ct_ne_i h.x h.i a ha e), h.r.keep k (fun ⟨a, ha, e⟩ => ct_ne_i h.r h.i a ha e), h.f.keep k (fun a ha ⟨a', ha', e⟩ => f_ne_i h.f h.i a a' ha ha' e), o, k.below (fun q ⟨a, ha, e⟩ => by rw [e]; exact (h.i.lt a ha).1) h.b h.b.size⟩
theorem WS.sortF {w wr w' : World} {b r : Nat} {c : Ct} {A : Option Addr} {n cap : Nat} {A1 : Option Addr} {m1 c1 : Nat} {lf lf' : List Fl} {A2 : Option Addr} {m2 c2 : Nat} {li : List Int} (h : WS w wr b r c A n cap A1 m1 c1 lf A2 m2 c2 li) (o : OwnF w' w.heap.size A1 m1 c1 lf') (k : Keep (blockOf A1) wr w') : WS w w' b r c A n cap A1 m1 c1 lf' A2 m2 c2 li :=
  ⟨h.x.keep k (fun ⟨a, ha, e⟩ => ct_ne_f h.x h.f a ha e), h.r.keep k (fun ⟨a, ha, e⟩ => ct_ne_f h.r h.f a ha e), o, h.i.keep k (fun a ha ⟨a', ha', e⟩ => f_ne_i h.f h.i a' a ha' ha e.symm), k.below (fun q ⟨a, ha, e⟩ => by rw [e]; exact (h.f.lt a ha).1) h.b h.b.size⟩
/-- What is gathered of the catalog's own files. -/
def keepF (out : List Int) (fs : List Fl) : List Fl := fs.filter (fun f => !decide (f.name ∈ out))
theorem keepF_succ (out : List Int) (fs : List Fl) (i : Nat) (hi : i < fs.length) : keepF out (fs.take (i + 1)) = keepF out (fs.take i) ++ (if (flAt fs i).name ∈ out then [] else [flAt fs i]) := by
  unfold keepF
  rw [List.take_succ_eq_append_getElem hi, List.filter_append, flAt_get hi, List.filter_cons]
  by_cases h : (flAt fs i).name ∈ out
  · rw [if_neg (by simp [h]), if_pos h]; rfl
  · rw [if_pos (by simp [h]), if_neg h]; rfl
theorem keepF_len (out : List Int) (fs : List Fl) : (keepF out fs).length ≤ fs.length := List.length_filter_le _ _
theorem keepF_congr {o1 o2 : List Int} (h : ∀ z, z ∈ o1 ↔ z ∈ o2) (fs : List Fl) : keepF o1 fs = keepF o2 fs := by
  unfold keepF
  congr 1
  funext f
  have : decide (f.name ∈ o1) = decide (f.name ∈ o2) := by rw [decide_eq_decide]; exact h _
  rw [this]
theorem OwnF.cap {w : World} {base n cap : Nat} {A : Option Addr} {l : List Fl} (h : OwnF w base A n cap l) : n ≤ cap ∧ cap ≤ maxLen := h.1.cap
set_option maxHeartbeats 4000000 in
theorem with_any (c : Ct) (put : List Fl) (gone : List Int) (N : Nat) (A : Option Addr) (n cap : Nat) (Ap : Option Addr) (np cp : Nat) (Ag : Option Addr) (ng cg : Nat) (w : World)
    (hl : c.files.length = n) (hlp : put.length = np) (hlg : gone.length = ng) (hs1 : n + np ≤ 20) (hs2 : ng + np ≤ 12) (hr : FlR w N A c.files) (hrp : FlR w N Ap put) (hrg : IR w N Ag gone) (hN : N ≤ w.heap.size) :
    Calls Try.prog 9 #[.agg (ctv c A n cap).toArray, .slice Ap np cp, .slice Ag ng cg] w fun e w' => ∃ A' n' c', e = .returned (.agg (ctv { c with files := withF c.files put gone } A' n' c').toArray) ∧ OwnF w' w.heap.size A' n' c' (withF c.files put gone) ∧ Below w.heap.size w w' := by
  have HL := Lib.hid hl; have HR := Lib.hid hr; have HRP := Lib.hid hrp; have HRG := Lib.hid hrg; have HLG := Lib.hid hlg; have HLP := Lib.hid hlp
  have LO := Lib.hid (fun w0 h0 h1 => lastO_any put N Ap np cp w0 hlp (by omega) h0 h1)
  have CG := Lib.hid (fun w0 h0 h1 => cloneI_any gone N Ag ng cg w0 hlg (by omega) h0 h1)
  obtain ⟨L, hL⟩ : ∃ L, lasts Fl.name (isort Fl.name put) = L := ⟨_, rfl⟩
  have WF : Hid (withF c.files put gone = isort Fl.name (L ++ keepF (isort keyI (gone ++ L.map Fl.name)) c.files)) := Lib.hid (by
    rw [keepF_congr (o2 := gone ++ L.map Fl.name) (fun z => mem_isort keyI z _)]
    unfold withF keepF
    rw [hL])
  have LLe : Hid (L.length ≤ np) := Lib.hid (by rw [← hL, ← hlp, ← isort_length Fl.name put]; exact lasts_length Fl.name _)
  rw [hL] at LO
  obtain ⟨G, hG⟩ : ∃ G, withF c.files put gone = G := ⟨_, rfl⟩
  rw [hG] at WF ⊢
  clear hl hr hrp hrg hlg hlp hL hG
  go_enter Try.func9, Try.ntmps9
  go_wp2_with (with_reducible refine box_ct rfl _ rfl c A n cap rfl ?_)
  intro w1 l1 b1 s1
  obtain ⟨b, hb⟩ : ∃ b, b = w.heap.size := ⟨_, rfl⟩
  rw [← hb] at l1 ⊢
  have S1 := Lib.hid s1; have HB := Lib.hid hb; have L1 := Lib.hid l1; have B1 := Lib.hid b1
  clear s1 hb l1 b1
  go_wp2_with (with_reducible refine alloc_ct rfl rfl ?_)
  intro w2 l2 b2 s2
  obtain ⟨r, hr⟩ : ∃ r, r = w1.heap.size := ⟨_, rfl⟩
  rw [← hr] at l2 ⊢
  have hbr : b ≠ r := by have := S1.out; have := HB.out; omega
  have hbw : w.heap.size ≤ b := by have := HB.out; omega
  have hrw : w.heap.size ≤ r := by have := S1.out; omega
  have B2 := Lib.hid (bstep B1.out b2)
  have X2 := Lib.hid (L1.out.below b2)
  have R2 := Lib.hid l2
  clear l2 b2 s2 hr S1 HB L1 B1
  go_wp2_with fail
  refine (LO.out w2 (HRP.out.below (B2.out.mono hN)) (by have := B2.out.size; omega)).mono ?_
  rintro e w3 ⟨A1, m1, c1, rfl, o3, b3⟩
  have B3 := Lib.hid (bstep B2.out b3)
  have X3 := Lib.hid (X2.out.below b3)
  have R3 := Lib.hid (R2.out.below b3)
  have O3 := Lib.hid (o3.weak (base' := w.heap.size) (fun a ha => by have := (o3.lt a ha).1; have := B2.out.size; omega))
  have HM1 : Hid (L.length = m1) := Lib.hid o3.2.1
  clear o3 b3 LO X2 R2
  go_wp2_with fail
  refine (CG.out w3 (HRG.out.below (B3.out.mono hN)) (by have := B3.out.size; omega)).mono ?_
  rintro e w4 ⟨A2, c2, rfl, o4, b4⟩
  have B4 := Lib.hid (bstep B3.out b4)
  have X4 := Lib.hid (X3.out.below b4)
  have R4 := Lib.hid (R3.out.below b4)
  have F4 := Lib.hid (O3.out.below b4)
  have I4 := Lib.hid (o4.weak (base' := w.heap.size) (fun a ha => by have := (o4.lt a ha).1; have := B3.out.size; omega))
  clear o4 b4 CG X3 R3 O3
  have Z4 : Hid (WS w w4 b r c A n cap A1 m1 c1 L A2 (ng + 0) c2 (gone ++ (L.map Fl.name).take 0)) := Lib.hid ⟨X4.out, R4.out, F4.out, by rw [List.take_zero, List.append_nil]; exact I4.out, B4.out⟩
  have hm1 : m1 ≤ np := by have := HM1.out; have := LLe.out; omega
  clear X4 R4 F4 I4 B4 B2 B3
  go_wp2
  go_loopw [8, 10, 21] (fun ov _ iv wr => ∃ (i : Nat) (A2 : Option Addr) (c2 : Nat), i ≤ m1 ∧ iv = .int .i64 i ∧ ov = .slice A2 (ng + i) c2 ∧ WS w wr b r c A n cap A1 m1 c1 L A2 (ng + i) c2 (gone ++ (L.map Fl.name).take i)) (fun _ _ iv _ => m1 - (intOf iv).toNat)
  case atStart => exact ⟨0, A2, c2, Nat.zero_le _, rfl, rfl, Z4.out⟩
  case round =>
    clear Z4
    obtain ⟨i, A2, c2, hi, rfl, rfl, ws⟩ := hrel
    have WS1 := Lib.hid ws
    clear ws
    by_cases hlt : i < m1
    · have i1 : decide ((i : Int) < (m1 : Int)) = true := by rw [decide_eq_true_eq]; omega
      have bi : (i : Int) < (m1 : Int) := by omega
      obtain ⟨g1, e1, hgx⟩ := WS1.out.f.1.at (by omega)
      subst e1
      clear hgx
      obtain ⟨z0, z1, z2, z3, fok⟩ := WS1.out.f.cells4 i hlt
      have SN : Hid (gone ++ (L.map Fl.name).take (i + 1) = (gone ++ (L.map Fl.name).take i) ++ [(flAt L i).name]) := Lib.hid (by
        rw [List.take_succ_eq_append_getElem (by rw [List.length_map, HM1.out]; exact hlt), List.getElem_map, flAt_get (by rw [HM1.out]; exact hlt), List.append_assoc])
      obtain ⟨f, hf⟩ : ∃ f, flAt L i = f := ⟨_, rfl⟩
      rw [hf] at z0 z1 z2 z3 fok SN
      obtain ⟨n0, n1⟩ := id fok.a
      have FOK := Lib.hid fok.a
      clear hf fok
      have V : Hid (WS w ((wr.alloc (.cells #[.int .i64 f.name, .int .i64 f.file, .int .i64 f.first, .int .i64 f.blocks] 33)).alloc (.cells #[.int .i64 f.name] 3)) b r c A n cap (some ⟨g1, 0, none⟩) m1 c1 L A2 (ng + i) c2 (gone ++ (L.map Fl.name).take i)) := Lib.hid ((WS1.out.below ((Below.refl _ _).alloc (Nat.le_refl _) _)).below ((Below.refl _ _).alloc (Nat.le_refl _) _))
      go_wp2_with (at_builtin; go_loud (refine app_i _ rfl _ _ rfl w.heap.size (ng + i) c2 A2 (gone ++ (L.map Fl.name).take i) rfl V.out.i (wr.heap.size + 1) 1 f.name rfl (by simp) FOK.out (by omega) V.out.b.size ?_))
      intro g' cap' w' o' fk
      have V2 : Hid (WS w w' b r c A n cap (some ⟨g1, 0, none⟩) m1 c1 L (some ⟨g', 0, none⟩) (ng + (i + 1)) cap' (gone ++ (L.map Fl.name).take (i + 1))) := Lib.hid (by rw [SN.out, List.append_assoc]; exact V.out.appI o' fk)
      clear o' fk V WS1
      go_wp2
      go_roundw
      case rel => exact ⟨i + 1, some ⟨g', 0, none⟩, cap', by omega, by go_num, rfl, V2.out⟩
      case measure => simp [intOf]; omega
    · obtain rfl : i = m1 := by omega
      have i1 : decide ((i : Int) < (i : Int)) = false := by simp
      rw [List.take_of_length_le (by rw [List.length_map, HM1.out]; exact Nat.le_refl _)] at WS1
      have SI := Lib.hid (sortI_any (gone ++ L.map Fl.name) w.heap.size A2 (ng + i) c2 wr (by omega) WS1.out.i)
      obtain ⟨out, ho⟩ : ∃ out, isort keyI (gone ++ L.map Fl.name) = out := ⟨_, rfl⟩
      have RO : Hid (Rise keyI out) := Lib.hid (by rw [← ho]; exact isort_rise keyI _)
      rw [ho] at SI WF
      clear ho
      go_wp2_with fail
      refine SI.out.mono ?_
      rintro e w5 ⟨rfl, o5, k5⟩
      have Z5 := Lib.hid (WS1.out.sortI o5 k5)
      clear o5 k5 SI WS1
      obtain ⟨_, _, _, _, _, _, _, _, x8⟩ := Z5.out.x.cells
      have Z50 : Hid (WS w w5 b r c A n cap A1 i c1 (L ++ keepF out (c.files.take 0)) A2 (ng + i) c2 out) := Lib.hid (by rw [List.take_zero]; unfold keepF; rw [List.filter_nil, List.append_nil]; exact Z5.out)
      have hmi : i ≤ np := hm1
      go_wp2
      go_loopw [7, 12, 13, 14, 36] (fun fv _ _ _ jv wr => ∃ (j : Nat) (A1 : Option Addr) (m c1 : Nat), j ≤ n ∧ jv = .int .i64 j ∧ fv = .slice A1 m c1 ∧ WS w wr b r c A n cap A1 m c1 (L ++ keepF out (c.files.take j)) A2 (ng + i) c2 out) (fun _ _ _ _ jv _ => n - (intOf jv).toNat)
      case atStart => exact ⟨0, A1, i, c1, Nat.zero_le _, rfl, rfl, Z50.out⟩
      case round =>
        clear Z50 Z5 x8
        obtain ⟨j, A1, m, c1, hj, rfl, rfl, ws⟩ := hrel
        have WS1 := Lib.hid ws
        have hm20 : m ≤ np + j := by
          have h1 := ws.f.2.1
          rw [List.length_append] at h1
          have h2 := keepF_len out (c.files.take j)
          rw [List.length_take] at h2
          have := LLe.out
          omega
        clear ws
        by_cases hlt : j < n
        · have i1 : decide ((j : Int) < (n : Int)) = true := by rw [decide_eq_true_eq]; omega
          have bi : (j : Int) < (n : Int) := by omega
          obtain ⟨fb, fo, e1, hfb, z0, z1, z2, z3, fok⟩ := HR.out.below (WS1.out.b.mono hN) j (by rw [HL.out]; exact hlt)
          subst e1
          have SN := Lib.hid (keepF_succ out c.files j (by rw [HL.out]; exact hlt))
          obtain ⟨f, hf⟩ : ∃ f, flAt c.files j = f := ⟨_, rfl⟩
          rw [hf] at z0 z1 z2 z3 fok SN
          obtain ⟨n0, n1⟩ := id fok.a
          have FOK := Lib.hid fok
          clear hf fok
          obtain ⟨W, hW⟩ : ∃ W, W = wr.alloc (.cells #[.int .i64 f.name, .int .i64 f.file, .int .i64 f.first, .int .i64 f.blocks] 33) := ⟨_, rfl⟩
          obtain ⟨g, hg⟩ : ∃ g, g = wr.heap.size := ⟨_, rfl⟩
          have hbW : Below wr.heap.size wr W := by rw [hW]; exact (Below.refl _ _).alloc (Nat.le_refl _) _
          have LF : Hid (FlV W g f) := Lib.hid (by rw [hW, hg]; exact FlV.new wr f)
          have WSW := Lib.hid (WS1.out.below hbW)
          have SB := Lib.hid (searchI_any out w.heap.size A2 (ng + i) c2 f.name W (by omega) FOK.out.a WSW.out.i RO.out)
          go_upto_region 12 with fail
          rw [← hW, ← hg]
          obtain ⟨y0, y1, y2, y3⟩ := LF.out.cells
          clear hW hg hbW z0 z1 z2 z3 WS1
          go_wp2_with fail
          refine SB.out.mono ?_
          rintro e w6 ⟨⟨ix, rfl⟩, rfl⟩
          clear SB
          by_cases hin : f.name ∈ out
          · have d1 : decide (f.name ∈ out) = true := by rw [decide_eq_true_eq]; exact hin
            have SN2 : Hid (keepF out (c.files.take (j + 1)) = keepF out (c.files.take j)) := Lib.hid (by rw [SN.out, if_pos hin, List.append_nil])
            clear hin
            go_wp2
            go_roundw
            case rel => exact ⟨j + 1, _, m, c1, by omega, by go_num, rfl, by rw [SN2.out]; exact WSW.out⟩
            case measure => simp [intOf]; omega
          · have d1 : decide (f.name ∈ out) = false := by rw [decide_eq_false_iff_not]; exact hin
            have SN2 : Hid (L ++ keepF out (c.files.take (j + 1)) = (L ++ keepF out (c.files.take j)) ++ [f]) := Lib.hid (by rw [SN.out, if_neg hin, List.append_assoc])
            have V := Lib.hid (WSW.out.below ((Below.refl _ W).alloc (Nat.le_refl _) (.cells #[.int .i64 f.name, .int .i64 f.file, .int .i64 f.first, .int .i64 f.blocks] 33)))
            clear hin
            go_wp2_with (at_builtin; go_loud (refine app_fl _ rfl _ _ rfl w.heap.size m c1 A1 (L ++ keepF out (c.files.take j)) rfl V.out.f W.heap.size 0 1 f rfl (FlAt4.new W f _ _) FOK.out (by omega) V.out.b.size ?_))
            intro g' cap' w' o' fk
            have V2 : Hid (WS w w' b r c _ n cap (some ⟨g', 0, none⟩) (m + 1) cap' (L ++ keepF out (c.files.take (j + 1))) A2 (ng + i) c2 out) := Lib.hid (by rw [SN2.out]; exact V.out.appF (by first | exact o' | (rw [List.append_assoc]; exact o')) fk)
            clear o' fk V
            go_wp2
            go_roundw
            case rel => exact ⟨j + 1, some ⟨g', 0, none⟩, m + 1, cap', by omega, by go_num, rfl, V2.out⟩
            case measure => simp [intOf]; omega
        · obtain rfl : j = n := by omega
          have i1 : decide ((j : Int) < (j : Int)) = false := by simp
          rw [List.take_of_length_le (by rw [HL.out]; exact Nat.le_refl _)] at WS1
          have SF := Lib.hid (sortF_any _ w.heap.size A1 m c1 wr (by omega) WS1.out.f)
          rw [← WF.out] at SF
          go_wp2_with fail
          refine SF.out.mono ?_
          rintro e w5 ⟨rfl, o5, k5⟩
          have Z5 := Lib.hid (WS1.out.sortF o5 k5)
          clear o5 k5 SF WS1
          obtain ⟨_, _, _, _, _, _, _, _, x8⟩ := Z5.out.x.cells
          have fz8 := Arr.frozen Z5.out.x 8
          go_upto_region 18 with fail
          obtain ⟨W, hW⟩ : ∃ W, W = w5.setCell ⟨b, 8, none⟩ (.slice A1 m c1) := ⟨_, rfl⟩
          rw [← hW]
          have XW : Hid (CtAt W b { c with files := G } A1 m c1) := Lib.hid (by rw [hW]; exact CtAt.files (c := { c with files := G }) Z5.out.x)
          have RW : Hid (CtAt W r Ct.zero none 0 0) := Lib.hid (by rw [hW]; exact Z5.out.r.keep (keep_set (F := (· = b)) rfl) (fun e => hbr e.symm))
          have FW : Hid (OwnF W w.heap.size A1 m c1 G) := Lib.hid (by rw [hW]; exact Z5.out.f.other (fun a ha e => ct_ne_f Z5.out.x Z5.out.f a ha e.symm) _)
          have BW : Hid (Below w.heap.size w W) := Lib.hid (by rw [hW]; exact (keep_set (F := (· = b)) rfl).below (fun k hk => by rw [hk]; exact hbw) Z5.out.b Z5.out.b.size)
          clear hW x8 fz8 Z5
          go_wp2_with (first | (with_reducible refine load_ct rfl _ rfl b { c with files := G } A1 m c1 XW.out rfl ?_) | (with_reducible refine store_ct rfl _ _ rfl r Ct.zero { c with files := G } none A1 0 m 0 c1 RW.out rfl rfl ?_))
          intro w7 l7 k7 s7
          have L7 := Lib.hid l7
          have B7 := Lib.hid (k7.below (fun k hk => by omega) BW.out BW.out.size)
          have F7 := Lib.hid (FW.out.keep k7 (fun a ha e => ct_ne_f RW.out FW.out a ha e.symm))
          clear l7 k7 s7
          go_wp2
          exact ret_ct1 6 rfl rfl L7.out rfl ⟨A1, m, c1, rfl, F7.out, B7.out⟩
end Go.Proofs.Ytoolmmjiemkpbaa

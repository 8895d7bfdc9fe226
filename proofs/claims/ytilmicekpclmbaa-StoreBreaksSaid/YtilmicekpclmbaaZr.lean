/-
  Lists sorted by an integer key, by insertion, as equals stay in their order; the last of each key. Maths alone.
  A file in a variable: made, read, laid into it, returned; the contract of package catalog's Find.
  Package store: the leaf of a block; a step along a chain.
  Package store: Step.
-/
import Derived.Test.YtilmicekpclmbaaZc
import Derived.Test.YtilmicekpclmbaaZq
import Derived.Test.YtilmicekpclmbaaZn
import Derived.Test.YtilmicekpclmbaaLG
import Derived.Test.YtilmicekpclmbaaZk
import Derived.Test.YtilmicekpclmbaaZm
import Derived.Deep.RegionHeldLaw
namespace Go.Proofs.Ytilmicekpclmbaa
set_option linter.unusedVariables false
set_option linter.unusedSimpArgs false

theorem snoc_inds {α : Type} {P : List α → Prop} (h0 : P []) (h1 : ∀ l x, P l → P (l ++ [x])) (l : List α) : P l := by
  have h : ∀ r : List α, P r.reverse := fun r => by
    induction r with
    | nil => exact h0
    | cons x r ih => rw [List.reverse_cons]; exact h1 _ _ ih
  have := h l.reverse
  rwa [List.reverse_reverse] at this
section
variable {α : Type} (k : α → Int)
/-- x put behind all that are not greater. -/
def ins (x : α) : List α → List α
  | [] => [x]
  | y :: r => if k y ≤ k x then y :: ins x r else x :: y :: r
def isort (l : List α) : List α := l.foldl (fun acc x => ins k x acc) []
def Rise (l : List α) : Prop := l.Pairwise (fun a b => k a ≤ k b)
def RiseS (l : List α) : Prop := l.Pairwise (fun a b => k a < k b)
theorem isort_snoc (l : List α) (x : α) : isort k (l ++ [x]) = ins k x (isort k l) := by
  unfold isort; rw [List.foldl_append]; rfl
theorem ins_length (x : α) : ∀ l : List α, (ins k x l).length = l.length + 1
  | [] => rfl
  | y :: r => by
    unfold ins
    split
    · rw [List.length_cons, ins_length x r, List.length_cons]
    · rfl
theorem isort_length (l : List α) : (isort k l).length = l.length := by
  induction l using snoc_inds with
  | h0 => rfl
  | h1 l x ih => rw [isort_snoc, ins_length, ih, List.length_append]; rfl
theorem mem_ins (x z : α) : ∀ l : List α, z ∈ ins k x l ↔ z = x ∨ z ∈ l
  | [] => by unfold ins; simp
  | y :: r => by
    unfold ins
    split
    · rw [List.mem_cons, mem_ins x z r, List.mem_cons]
      constructor
      · rintro (h | h | h)
        · exact Or.inr (Or.inl h)
        · exact Or.inl h
        · exact Or.inr (Or.inr h)
      · rintro (h | h | h)
        · exact Or.inr (Or.inl h)
        · exact Or.inl h
        · exact Or.inr (Or.inr h)
    · rw [List.mem_cons]
theorem mem_isort (z : α) (l : List α) : z ∈ isort k l ↔ z ∈ l := by
  induction l using snoc_inds with
  | h0 => rfl
  | h1 l x ih => rw [isort_snoc, mem_ins, ih, List.mem_append, List.mem_singleton]; exact Or.comm
theorem ins_rise (x : α) : ∀ l : List α, Rise k l → Rise k (ins k x l)
  | [], _ => by unfold ins; exact List.pairwise_singleton _ _
  | y :: r, h => by
    unfold ins
    have h' := List.pairwise_cons.1 h
    split
    · rename_i hy
      refine List.pairwise_cons.2 ⟨fun z hz => ?_, ins_rise x r h'.2⟩
      rcases (mem_ins k x z r).1 hz with e | e
      · rw [e]; exact hy
      · exact h'.1 z e
    · rename_i hy
      refine List.pairwise_cons.2 ⟨fun z hz => ?_, h⟩
      rcases List.mem_cons.1 hz with e | e
      · rw [e]; omega
      · have := h'.1 z e; omega
theorem isort_rise (l : List α) : Rise k (isort k l) := by
  induction l using snoc_inds with
  | h0 => exact List.Pairwise.nil
  | h1 l x ih => rw [isort_snoc]; exact ins_rise k x _ ih
/-- Where x lands. -/
theorem ins_at (x : α) (S : List α) (hS : ∀ z, z ∈ S → k x < k z) : ∀ P : List α, (∀ z, z ∈ P → k z ≤ k x) → ins k x (P ++ S) = P ++ x :: S
  | [], _ => by
    cases S with
    | nil => rfl
    | cons y r =>
      show ins k x (y :: r) = x :: y :: r
      unfold ins
      rw [if_neg (by have := hS y (List.mem_cons_self ..); omega)]
  | y :: P, h => by
    show ins k x (y :: (P ++ S)) = y :: (P ++ x :: S)
    unfold ins
    rw [if_pos (h y (List.mem_cons_self ..)), ins_at x S hS P (fun z hz => h z (List.mem_cons_of_mem _ hz))]
theorem rise_last {P : List α} {p x : α} {S : List α} (h : Rise k ((P ++ [p]) ++ S)) (hp : k p ≤ k x) : ∀ z, z ∈ P ++ [p] → k z ≤ k x := fun z hz => by
  have h1 := (List.pairwise_append.1 h).1
  rcases List.mem_append.1 hz with e | e
  · have := (List.pairwise_append.1 h1).2.2 z e p (by simp); omega
  · rw [List.mem_singleton.1 e]; exact hp
/-- Equals stay in their order. -/
theorem ins_filter (n : Int) (x : α) : ∀ l : List α, Rise k l → (ins k x l).filter (fun z => k z == n) = l.filter (fun z => k z == n) ++ (if k x == n then [x] else [])
  | [], _ => by
    unfold ins
    rw [List.filter_cons]
    split <;> rfl
  | y :: r, h => by
    have h' := List.pairwise_cons.1 h
    unfold ins
    split
    · rw [List.filter_cons, ins_filter n x r h'.2, List.filter_cons (x := y)]
      split <;> rfl
    · rename_i hy
      rw [List.filter_cons (x := x)]
      split
      · rename_i hx
        have hx : k x = n := by simpa using hx
        have : (y :: r).filter (fun z => k z == n) = [] := by
          rw [List.filter_eq_nil_iff]
          intro z hz hzn
          have hzn : k z = n := by simpa using hzn
          rcases List.mem_cons.1 hz with e | e
          · rw [e] at hzn; omega
          · have := h'.1 z e; omega
        rw [this]; rfl
      · rw [List.append_nil]
theorem isort_filter (n : Int) (l : List α) : (isort k l).filter (fun z => k z == n) = l.filter (fun z => k z == n) := by
  induction l using snoc_inds with
  | h0 => rfl
  | h1 l x ih =>
    rw [isort_snoc, ins_filter k n x _ (isort_rise k l), ih, List.filter_append]
    congr 1
    rw [List.filter_cons]
    split <;> rfl
/-- The last of each key, of a list that rises. -/
def lasts : List α → List α
  | [] => []
  | [x] => [x]
  | x :: y :: r => if k y = k x then lasts (y :: r) else x :: lasts (y :: r)
theorem lasts_mem (z : α) : ∀ l : List α, z ∈ lasts k l → z ∈ l
  | [], h => by cases h
  | [x], h => h
  | x :: y :: r, h => by
    unfold lasts at h
    split at h
    · exact List.mem_cons_of_mem _ (lasts_mem z (y :: r) h)
    · rcases List.mem_cons.1 h with e | e
      · rw [e]; exact List.mem_cons_self ..
      · exact List.mem_cons_of_mem _ (lasts_mem z (y :: r) e)
theorem lasts_riseS : ∀ l : List α, Rise k l → RiseS k (lasts k l)
  | [], _ => List.Pairwise.nil
  | [x], _ => List.pairwise_singleton _ _
  | x :: y :: r, h => by
    have h' := List.pairwise_cons.1 h
    have h2 := List.pairwise_cons.1 h'.2
    unfold lasts
    split
    · exact lasts_riseS _ h'.2
    · rename_i hy
      refine List.pairwise_cons.2 ⟨fun z hz => ?_, lasts_riseS _ h'.2⟩
      have hm := lasts_mem k z _ hz
      have h0 := h'.1 y (List.mem_cons_self ..)
      rcases List.mem_cons.1 hm with e | e
      · rw [e]; omega
      · have := h2.1 z e; omega
theorem lasts_length : ∀ l : List α, (lasts k l).length ≤ l.length
  | [] => Nat.le_refl _
  | [x] => Nat.le_refl _
  | x :: y :: r => by
    have := lasts_length (y :: r)
    rw [List.length_cons] at this
    unfold lasts
    split
    · rw [List.length_cons, List.length_cons]; omega
    · rw [List.length_cons, List.length_cons, List.length_cons]; omega
/-- The first of a key. -/
def fnd (n : Int) (l : List α) : Option α := l.find? (fun z => k z == n)
theorem fnd_filter (n : Int) (l : List α) : fnd k n l = (l.filter (fun z => k z == n)).head? := by
  unfold fnd; rw [List.head?_filter]
theorem fnd_none {n : Int} {l : List α} : fnd k n l = none ↔ ∀ z, z ∈ l → k z ≠ n := by
  unfold fnd
  rw [List.find?_eq_none]
  exact ⟨fun h z hz e => h z hz (by simpa using e), fun h z hz e => h z hz (by simpa using e)⟩
theorem fnd_lasts (n : Int) : ∀ l : List α, Rise k l → fnd k n (lasts k l) = (l.filter (fun z => k z == n)).getLast?
  | [], _ => rfl
  | [x], _ => by
    unfold lasts fnd
    rw [List.find?_cons, List.filter_cons]
    split
    · rename_i h; rw [if_pos h]; rfl
    · rename_i h; rw [if_neg (by rw [h]; decide)]; rfl
  | x :: y :: r, h => by
    have h' := List.pairwise_cons.1 h
    have ih := fnd_lasts n (y :: r) h'.2
    unfold lasts
    split
    · rename_i hy
      rw [ih, List.filter_cons (x := x)]
      split
      · rename_i hx
        have hx : k x = n := by simpa using hx
        have hyn : (k y == n) = true := by simpa using (hy.trans hx)
        rw [List.filter_cons (x := y), if_pos hyn, List.getLast?_cons_cons]
      · rfl
    · rename_i hy
      unfold fnd at ih ⊢
      rw [List.find?_cons]
      have h2 := List.pairwise_cons.1 h'.2
      have h0 := h'.1 y (List.mem_cons_self ..)
      cases hx : (k x == n)
      · rw [ih, List.filter_cons (x := x), hx]; rfl
      · have hx' : k x = n := by simpa using hx
        have e : (y :: r).filter (fun z => k z == n) = [] := by
          rw [List.filter_eq_nil_iff]
          intro z hz hzn
          have hzn : k z = n := by simpa using hzn
          rcases List.mem_cons.1 hz with e | e
          · rw [e] at hzn; omega
          · have := h2.1 z e; omega
        rw [List.filter_cons (x := x), hx, e]; rfl
theorem riseS_rise {l : List α} (h : RiseS k l) : Rise k l := List.Pairwise.imp (fun h => by omega) h
/-- Of a list without two of a key the order does not matter. -/
theorem fnd_isort (n : Int) (l : List α) : fnd k n (isort k l) = fnd k n l := by rw [fnd_filter, fnd_filter, isort_filter]
theorem riseS_of {l : List α} (h : Rise k l) (hd : l.Pairwise (fun a b => k a ≠ k b)) : RiseS k l := by
  induction l with
  | nil => exact List.Pairwise.nil
  | cons x r ih =>
    have h1 := List.pairwise_cons.1 h
    have h2 := List.pairwise_cons.1 hd
    exact List.pairwise_cons.2 ⟨fun z hz => by have := h1.1 z hz; have := h2.1 z hz; omega, ih h1.2 h2.2⟩
theorem ins_apart (x : α) : ∀ l : List α, (∀ z, z ∈ l → k z ≠ k x) → l.Pairwise (fun a b => k a ≠ k b) → (ins k x l).Pairwise (fun a b => k a ≠ k b)
  | [], _, _ => by unfold ins; exact List.pairwise_singleton _ _
  | y :: r, h, hd => by
    have hd' := List.pairwise_cons.1 hd
    unfold ins
    split
    · refine List.pairwise_cons.2 ⟨fun z hz => ?_, ins_apart x r (fun z hz => h z (List.mem_cons_of_mem _ hz)) hd'.2⟩
      rcases (mem_ins k x z r).1 hz with e | e
      · rw [e]; exact h y (List.mem_cons_self ..)
      · exact hd'.1 z e
    · exact List.pairwise_cons.2 ⟨fun z hz => fun e => h z hz e.symm, hd⟩
theorem isort_apart (l : List α) (hd : l.Pairwise (fun a b => k a ≠ k b)) : (isort k l).Pairwise (fun a b => k a ≠ k b) := by
  induction l using snoc_inds with
  | h0 => exact List.Pairwise.nil
  | h1 l x ih =>
    have h := List.pairwise_append.1 hd
    rw [isort_snoc]
    refine ins_apart k x _ (fun z hz => h.2.2 z ((mem_isort k z l).1 hz) x (by simp)) (ih h.1)
theorem isort_riseS {l : List α} (hd : l.Pairwise (fun a b => k a ≠ k b)) : RiseS k (isort k l) := riseS_of k (isort_rise k l) (isort_apart k l hd)
end
/-- What With makes of the files. -/
def withF (fs put : List Fl) (gone : List Int) : List Fl :=
  isort Fl.name (lasts Fl.name (isort Fl.name put) ++ fs.filter (fun f => !decide (f.name ∈ gone ++ (lasts Fl.name (isort Fl.name put)).map Fl.name)))
theorem withF_rise (fs put : List Fl) (gone : List Int) (h : RiseS Fl.name fs) : RiseS Fl.name (withF fs put gone) := by
  refine isort_riseS Fl.name (List.pairwise_append.2 ⟨?_, ?_, ?_⟩)
  · exact List.Pairwise.imp (fun h => by omega) (lasts_riseS Fl.name _ (isort_rise Fl.name put))
  · exact List.Pairwise.imp (fun h => by omega) (List.Pairwise.filter _ h)
  · intro a ha b hb e
    have hb := (List.mem_filter.1 hb).2
    simp only [Bool.not_eq_true', decide_eq_false_iff_not] at hb
    exact hb (List.mem_append_right _ (by rw [← e]; exact List.mem_map_of_mem ha))
/-- The last put of a name. -/
def putOf (n : Int) (put : List Fl) : Option Fl := (put.filter (fun z => z.name == n)).getLast?
theorem lasts_put (n : Int) (put : List Fl) : fnd Fl.name n (lasts Fl.name (isort Fl.name put)) = putOf n put := by
  rw [fnd_lasts Fl.name n _ (isort_rise Fl.name put), isort_filter]; rfl
theorem withF_fnd (fs put : List Fl) (gone : List Int) (n : Int) : fnd Fl.name n (withF fs put gone) = (putOf n put).or (if n ∈ gone then none else fnd Fl.name n fs) := by
  unfold withF
  rw [fnd_isort]
  have e : fnd Fl.name n (lasts Fl.name (isort Fl.name put)) = putOf n put := lasts_put n put
  unfold fnd at e ⊢
  rw [List.find?_append, e]
  cases hp : putOf n put with
  | some x => rfl
  | none =>
    rw [hp] at e
    rw [Option.none_or, Option.none_or, List.find?_filter]
    have hno : n ∉ (lasts Fl.name (isort Fl.name put)).map Fl.name := fun hm => by
      obtain ⟨z, hz, hzn⟩ := List.mem_map.1 hm
      have := List.find?_eq_none.1 e z hz
      simp [hzn] at this
    split
    · rename_i hg
      rw [List.find?_eq_none]
      intro z hz
      intro h1
      simp only [Bool.and_eq_true, Bool.not_eq_true', decide_eq_false_iff_not, beq_iff_eq, decide_eq_true_eq] at h1
      exact h1.1 (List.mem_append_left _ (by rw [h1.2]; exact hg))
    · rename_i hg
      congr 1
      funext z
      rw [Bool.eq_iff_iff]
      simp only [Bool.and_eq_true, Bool.not_eq_true', decide_eq_false_iff_not, beq_iff_eq, List.mem_append, decide_eq_true_eq]
      constructor
      · exact fun h => h.2
      · intro h
        refine ⟨?_, h⟩
        rw [h]
        rintro (q | q)
        · exact hg q
        · exact hno q
end Go.Proofs.Ytilmicekpclmbaa
namespace Go.Proofs.Ytilmicekpclmbaa
set_option linter.unusedVariables false
set_option linter.unusedSimpArgs false
set_option maxRecDepth 100000
open Go.RowKit

/-- A file in a block of its own. -/
def FlV (w : World) (b : Nat) (f : Fl) : Prop := Arr w b 40 (flv f)
theorem FlV.below {w w' : World} {b : Nat} {f : Fl} (h : FlV w b f) (hb : Below w.heap.size w w') : FlV w' b f := Arr.below h hb
theorem FlV.lt {w : World} {b : Nat} {f : Fl} (h : FlV w b f) : b < w.heap.size := Arr.lt h
theorem FlV.new (w : World) (f : Fl) : FlV (w.alloc (.cells #[.int .i64 f.name, .int .i64 f.file, .int .i64 f.first, .int .i64 f.blocks] 40)) w.heap.size f := Arr.new w _ (flv f)
theorem Try.size_fl : (Try.prog.info? 40).map (·.size) = some 4 := by kernel_rfl
theorem FlV.range {w : World} {b : Nat} {f : Fl} (h : FlV w b f) : w.rangeAt b 0 (flv f) := fun j v hv => by rw [Arr.cell h, Nat.zero_add]; exact hv
theorem FlV.cells {w : World} {b : Nat} {f : Fl} (h : FlV w b f) : w.cell? ⟨b, 0, none⟩ = some (.int .i64 f.name) ∧ w.cell? ⟨b, 1, none⟩ = some (.int .i64 f.file) ∧ w.cell? ⟨b, 2, none⟩ = some (.int .i64 f.first) ∧ w.cell? ⟨b, 3, none⟩ = some (.int .i64 f.blocks) :=
  ⟨Arr.cell h 0, Arr.cell h 1, Arr.cell h 2, Arr.cell h 3⟩
theorem Try.zero_fl : (Try.prog.info? 40).map (fun i => (i.zero, i.size)) = some (some (.agg (flv Fl.zero).toArray), 4) := by kernel_rfl
section
variable {ops : Array Oper} {rs : List Oper} {o : Oper} {a : Act} {w : World} {Q : Exit → Act → World → Prop}
theorem load_fl (hgd : o.guard = none) (x : Operand) (ho : o.op = .load 40 x) (b : Nat) (f : Fl) (hL : FlV w b f) (hx : a.eval x = .pointer (some ⟨b, 0, none⟩))
    (h : wpList Try.prog ops Q rs (a.put o.dst (.agg (flv f).toArray)) w) : wpList Try.prog ops Q (o :: rs) a w :=
  wpList_load_mid hgd _ x ho b 0 hx (flv f) _ hL.range Try.underlying40 rfl Try.size_fl h
theorem zero_fl_run (w : World) : (zeroValue 40).run Try.prog w = .ok (.agg (flv Fl.zero).toArray) w := (zero_of_info Try.zero_fl).1 w
theorem alloc_fl (hgd : o.guard = none) (ho : o.op = .alloc 40)
    (h : ∀ w1, FlV w1 w.heap.size Fl.zero → Below w.heap.size w w1 → w1.heap.size = w.heap.size + 1 → wpList Try.prog ops Q rs (a.put o.dst (.pointer (some ⟨w.heap.size, 0, none⟩))) w1) : wpList Try.prog ops Q (o :: rs) a w :=
  wpList_plain hgd fun K hK => by
    unfold Oper.wp execOp
    simp only [ho, Instr.alloc, newVar, newRow, newObj, Value.cells, Sem.run_bind, Sem.run_pure, Result.andThen_ok, zero_fl_run]
    exact hK _ _ (h _ (Arr.new w _ _) ((Below.refl _ _).alloc (Nat.le_refl _) _) (by simp))
theorem store_fl_run {b : Nat} {f0 f : Fl} (h0 : FlV w b f0) : (storeVar 40 ⟨b, 0, none⟩ (.agg (flv f).toArray)).run Try.prog w = .ok () (w.setRow b (flv f).toArray) :=
  run_storeVar_row w b _ _ _ _ h0 (by rw [List.size_toArray]; exact Try.size_fl) (by rw [List.size_toArray, List.size_toArray]; rfl) (all_oneCell_toArray (flv_one f))
theorem store_fl (hgd : o.guard = none) (x y : Operand) (ho : o.op = .store 40 x y) (b : Nat) (f0 f : Fl) (h0 : FlV w b f0) (hx : a.eval x = .pointer (some ⟨b, 0, none⟩)) (hy : a.eval y = .agg (flv f).toArray)
    (h : ∀ w1, FlV w1 b f → Keep (· = b) w w1 → w1.heap.size = w.heap.size → wpList Try.prog ops Q rs (a.put o.dst undef) w1) : wpList Try.prog ops Q (o :: rs) a w :=
  wpList_plain hgd fun K hK => by
    unfold Oper.wp execOp
    simp only [ho, hx, hy, Instr.storeAt, Instr.sureAddr, Sem.run_bind, Sem.run_pure, Result.andThen_ok, store_fl_run h0]
    exact hK _ _ (h _ (setRow_heap w b _ _ _ _ h0) (keep_setRow w b _) (by simp [World.setRow]))
theorem built_fl0 : Try.prog.built 40 [] = some (flv Fl.zero).toArray := by
  have h1 := Try.zero_fl
  unfold Program.built
  cases hi : Try.prog.info? 40 with
  | none => rw [hi] at h1; cases h1
  | some it =>
    rw [hi] at h1
    simp at h1
    rw [Try.underlying40]
    simp only [h1.1]
    rfl
theorem build_fl0 (hgd : o.guard = none) (ho : o.op = .build 40 #[])
    (h : wpList Try.prog ops Q rs (a.put o.dst (.agg (flv Fl.zero).toArray)) w) : wpList Try.prog ops Q (o :: rs) a w :=
  wpList_plain hgd fun K hK => by
    unfold Oper.wp execOp
    simp only [ho, Array.map_empty, run_build w 40 #[] _ built_fl0, Sem.run_bind, Sem.run_pure, Result.andThen_ok]
    exact hK _ _ h
end
theorem load_fl_run {w : World} {b : Nat} {f : Fl} (h : FlV w b f) : (loadVar 40 ⟨b, 0, none⟩).run Try.prog w = .ok (.agg (flv f).toArray) w :=
  run_loadVar_mid w b 0 _ (flv f) _ h.range Try.underlying40 rfl Try.size_fl
theorem ret_fl {fn : Func} {R : Ending → World → Prop} {a : Act} {w : World} {b : Nat} {f : Fl} {q : Bool} (i j : Nat) (hf : fn.results = #[.cell i 40, .tmp j]) (hi : a.tmps.getD i undef = .pointer (some ⟨b, 0, none⟩)) (hj : a.tmps.getD j undef = .bool q) (h : FlV w b f) (hd : a.defers = [])
    (hR : R (.returned (.tuple #[.agg (flv f).toArray, .bool q])) w) : bodyPost Try.prog fn R .ret a w := by
  refine bodyPost_ret (v := .tuple #[.agg (flv f).toArray, .bool q]) ?_ hd hR
  unfold results
  rw [hf]
  rw [Array.getD_eq_getD_getElem?] at hi hj
  simp [hi, hj, asAddr, load_fl_run h]
/-- What Find answers. -/
def fndF (l : List Fl) (nm : Int) : Fl := (fnd Fl.name nm l).getD Fl.zero
def fndK (l : List Fl) (nm : Int) : Bool := (fnd Fl.name nm l).isSome
theorem mem_flAt {l : List Fl} {z : Fl} (h : z ∈ l) : ∃ i, i < l.length ∧ flAt l i = z := by
  obtain ⟨i, hi, e⟩ := List.mem_iff_getElem.1 h
  refine ⟨i, hi, ?_⟩
  unfold flAt
  rw [List.getD_eq_getElem?_getD, List.getElem?_eq_getElem hi]
  exact e
theorem flAt_mem {l : List Fl} {i : Nat} (hi : i < l.length) : flAt l i ∈ l := by
  unfold flAt
  rw [List.getD_eq_getElem?_getD, List.getElem?_eq_getElem hi]
  exact List.getElem_mem hi
theorem flAt_get {l : List Fl} {i : Nat} (hi : i < l.length) : l[i] = flAt l i := by
  unfold flAt
  rw [List.getD_eq_getElem?_getD, List.getElem?_eq_getElem hi]
  rfl
theorem fnd_miss {l : List Fl} {nm : Int} (h : ∀ j, j < l.length → (flAt l j).name ≠ nm) : fndF l nm = Fl.zero ∧ fndK l nm = false := by
  have e : fnd Fl.name nm l = none := (fnd_none Fl.name).2 fun z hz hn => by
    obtain ⟨i, hi, rfl⟩ := mem_flAt hz
    exact h i hi hn
  unfold fndF fndK
  rw [e]
  exact ⟨rfl, rfl⟩
theorem fnd_hit {l : List Fl} {nm : Int} {i : Nat} (hi : i < l.length) (h : ∀ j, j < i → (flAt l j).name ≠ nm) (hn : (flAt l i).name = nm) : fndF l nm = flAt l i ∧ fndK l nm = true := by
  have e : fnd Fl.name nm l = some (flAt l i) := by
    unfold fnd
    rw [List.find?_eq_some_iff_getElem]
    refine ⟨by simpa using hn, i, hi, flAt_get hi, fun j hj => ?_⟩
    have := h j hj
    rw [flAt_get (by omega)]
    simpa using this
  unfold fndF fndK
  rw [e]
  exact ⟨rfl, rfl⟩
set_option maxHeartbeats 2000000 in
theorem find_any (c : Ct) (N : Nat) (A : Option Addr) (n cap : Nat) (nm : Int) (w : World) (hl : c.files.length = n) (hm : n ≤ maxLen) (hr : FlR w N A c.files) (hN : N ≤ w.heap.size) (hnm : I64x nm) :
    Calls Try.prog 13 #[.agg (ctv c A n cap).toArray, .int .i64 nm] w fun e w' => e = .returned (.tuple #[.agg (flv (fndF c.files nm)).toArray, .bool (fndK c.files nm)]) ∧ Below w.heap.size w w' := by
  unfold maxLen at hm
  obtain ⟨nm0, nm1⟩ := hnm
  have HL := Lib.hid hl; have HR := Lib.hid hr
  clear hl hr
  go_enter Try.func13, Try.ntmps13
  go_wp2_with (with_reducible refine box_ct rfl _ rfl c A n cap rfl ?_)
  intro w1 l1 b1 s1
  obtain ⟨b, hb⟩ : ∃ b, b = w.heap.size := ⟨_, rfl⟩
  rw [← hb] at l1 ⊢
  have hN1 : N ≤ w1.heap.size := by omega
  have R1 := Lib.hid (HR.out.below (b1.mono hN))
  have S1 := Lib.hid s1; have HB := Lib.hid hb
  clear s1 hb
  go_wp2_with (with_reducible refine alloc_fl rfl rfl ?_)
  intro w2 l2 b2 s2
  have s1 := S1.out
  have hb := HB.out
  obtain ⟨r, hr⟩ : ∃ r, r = w1.heap.size := ⟨_, rfl⟩
  rw [← hr] at l2 ⊢
  have R2 := Lib.hid (R1.out.below (b2.mono hN1))
  have B2 := Lib.hid (bstep b1 b2)
  have L2 := Lib.hid l2
  have hN2 : N ≤ w2.heap.size := by omega
  have hr2 : r < w2.heap.size := by omega
  have hwr : w.heap.size ≤ r := by omega
  have hNr : N ≤ r := by omega
  obtain ⟨_, _, _, _, _, _, _, _, c8⟩ := (l1.below b2).cells
  clear hb hr b1 b2 s1 s2 S1 HB l1 l2 R1 HR
  go_wp2
  go_loopw [7, 11] (fun _ iv wr => ∃ i : Nat, i ≤ n ∧ iv = .int .i64 i ∧ (∀ j, j < i → (flAt c.files j).name ≠ nm) ∧ FlV wr r Fl.zero ∧ Below w2.heap.size w2 wr) (fun _ iv _ => n - (intOf iv).toNat)
  case atStart => exact ⟨0, Nat.zero_le _, rfl, fun j hj => by omega, L2.out, Below.refl _ _⟩
  case round =>
    obtain ⟨i, hi, rfl, hall, lz, bw⟩ := hrel
    have HALL := Lib.hid hall
    have LZ := Lib.hid lz
    clear hall lz
    by_cases hlt : i < n
    · have i1 : decide ((i : Int) < (n : Int)) = true := by rw [decide_eq_true_eq]; omega
      have R3 := Lib.hid (R2.out.below (bw.mono hN2))
      obtain ⟨fb, fo, rfl, hfb, z0, z1, z2, z3, fok⟩ := R3.out i (by rw [HL.out]; exact hlt)
      obtain ⟨⟨n0, n1⟩, _⟩ := id fok
      have BW := Lib.hid bw
      have hsz := bw.size
      clear bw fok R3
      obtain ⟨f, hf⟩ : ∃ f, flAt c.files i = f := ⟨_, rfl⟩
      rw [hf] at z0 z1 z2 z3 n0 n1
      have HF := Lib.hid hf
      clear hf
      by_cases hn : f.name = nm
      · have q1 : decide (f.name = nm) = true := by rw [decide_eq_true_eq]; exact hn
        have q2 : (f.name == nm) = true := by rw [beq_iff_eq]; exact hn
        have FH := Lib.hid (fnd_hit (l := c.files) (nm := nm) (i := i) (by rw [HL.out]; exact hlt) HALL.out (by rw [HF.out]; exact hn))
        clear hn
        go_upto_region 5 with fail
        obtain ⟨W, hW⟩ : ∃ W, W = wr.alloc (.cells #[.int .i64 f.name, .int .i64 f.file, .int .i64 f.first, .int .i64 f.blocks] 40) := ⟨_, rfl⟩
        rw [← hW]
        obtain ⟨g, hg⟩ : ∃ g, g = wr.heap.size := ⟨_, rfl⟩
        rw [← hg]
        have hbW : Below wr.heap.size wr W := by rw [hW]; exact (Below.refl _ _).alloc (Nat.le_refl _) _
        have LF : Hid (FlV W g f) := Lib.hid (by rw [hW, hg]; exact FlV.new wr f)
        have LW := Lib.hid (LZ.out.below hbW)
        have BWW := Lib.hid (bstep BW.out hbW)
        clear hW hg hbW z0 z1 z2 z3
        go_wp2_with (first | (with_reducible refine load_fl rfl _ rfl g f LF.out rfl ?_) | (with_reducible refine store_fl rfl _ _ rfl r Fl.zero f LW.out rfl rfl ?_))
        intro w7 l7 k7 s7
        have L7 := Lib.hid l7
        have B7 := Lib.hid (k7.below (fun k hk => by omega) (bstep B2.out BWW.out) (by have := BWW.out.size; have := B2.out.size; omega))
        clear l7 k7 s7
        go_wp2
        refine ret_fl 4 5 rfl rfl rfl L7.out rfl ⟨?_, B7.out⟩
        rw [FH.out.1, FH.out.2, HF.out]
      · have q1 : decide (f.name = nm) = false := by rw [decide_eq_false_iff_not]; exact hn
        have q2 : (f.name == nm) = false := by rw [beq_eq_false_iff_ne]; exact hn
        have HN : Hid (∀ j, j < i + 1 → (flAt c.files j).name ≠ nm) := Lib.hid (fun j hj => by
          by_cases hji : j = i
          · rw [hji, HF.out]; exact hn
          · exact HALL.out j (by omega))
        have hbW : Hid (Below wr.heap.size wr (wr.alloc (.cells #[.int .i64 f.name, .int .i64 f.file, .int .i64 f.first, .int .i64 f.blocks] 40))) := Lib.hid ((Below.refl _ _).alloc (Nat.le_refl _) _)
        clear hn
        go_wp2
        go_roundw
        case rel => exact ⟨i + 1, by omega, by go_num, HN.out, LZ.out.below hbW.out, bstep BW.out hbW.out⟩
        case measure => simp [intOf]; omega
    · obtain rfl : i = n := by omega
      have i1 : decide ((i : Int) < (i : Int)) = false := by simp
      have FM := Lib.hid (fnd_miss (l := c.files) (nm := nm) (by rw [HL.out]; exact HALL.out))
      have BW := Lib.hid bw
      have hsz := bw.size
      clear bw
      go_wp2_with (first | (with_reducible refine build_fl0 rfl rfl ?_) | (with_reducible refine store_fl rfl _ _ rfl r Fl.zero Fl.zero LZ.out rfl rfl ?_))
      intro w7 l7 k7 s7
      have L7 := Lib.hid l7
      have B7 := Lib.hid (k7.below (fun k hk => by omega) (bstep B2.out BW.out) (by have := BW.out.size; have := B2.out.size; omega))
      clear l7 k7 s7
      go_wp2
      refine ret_fl 4 5 rfl rfl rfl L7.out rfl ⟨?_, B7.out⟩
      rw [FM.out.1, FM.out.2]
end Go.Proofs.Ytilmicekpclmbaa
namespace Go.Proofs.Ytilmicekpclmbaa
set_option linter.unusedVariables false
set_option linter.unusedSimpArgs false
set_option maxRecDepth 100000
open Go.RowKit

theorem off_eq (F b s) (w : World) (h : DiskAt w F b s) : Calls Try.prog 32 #[.pointer (some ⟨b, 0, none⟩)] w fun e w' => e = .returned (.bool s.off) ∧ w = w' := by
  obtain ⟨g, cb, A, c, h⟩ := h
  have c1 : w.cell? ⟨b, 3, none⟩ = some (.bool s.off) := h.st.cell 3
  clear h
  generalize s.off = q at *
  go_enter Try.func32, Try.ntmps32
  go_wp2
  go_ret
  exact ⟨rfl, rfl⟩
theorem len_eq (F b s) (w : World) (h : DiskAt w F b s) : Calls Try.prog 26 #[.pointer (some ⟨b, 0, none⟩)] w fun e w' => e = .returned (.int .i64 s.blk.length) ∧ w = w' := by
  obtain ⟨g, cb, A, c, h⟩ := h
  have c1 : w.cell? ⟨b, 0, none⟩ = some (.slice (some ⟨g, 0, none⟩) s.blk.length cb) := h.st.cell 0
  clear h
  generalize s.blk.length = q at *
  go_enter Try.func26, Try.ntmps26
  go_wp2
  go_ret
  exact ⟨rfl, rfl⟩
theorem clone_n (B : Nat) (a : Addr) (n c : Nat) (xs : List Int) (w : World) (hr : RdB w B (some a) xs) (hB : B ≤ w.heap.size) (hl : xs.length = n) (hn : n ≤ 1000) :
    Calls Try.prog 39 #[.slice (some a) n c] w fun e w' => ∃ g' c', e = .returned (.slice (some ⟨g', 0, none⟩) n c') ∧ Own w' w.heap.size g' c' xs ∧ Below w.heap.size w w' := by
  have HR := Lib.hid hr; have HL := Lib.hid hl
  have en := eql_nil 30 5 (some a) n c Try.underlying30
  clear hr hl
  go_enter Try.func39, Try.ntmps39
  go_wp2_with (at_builtin; go_loud (refine app_rd _ rfl _ _ rfl w.heap.size w.heap.size 0 0 [] rfl rfl (Own.empty w _ (Nat.le_refl _)) B (some a) n c xs HL.out rfl (HR.out.below ((Below.alloc (Below.refl _ w) (Nat.le_refl _) _).mono hB)) (fun e => (by cases e)) (by omega) (by simp) ?_))
  intro g' c'' w' r1 r2
  have R1 := Lib.hid r1
  have B1 : Hid (Below w.heap.size w w') := Lib.hid (Below.grown (Below.alloc (Below.refl _ w) (Nat.le_refl _) (.cells #[] 5)) r2 (by simp) (fun k hk => by injection hk with hk; omega))
  clear r1 r2
  go_wp2
  go_ret
  exact ⟨g', c'', by simp, by have := R1.out; simpa using this, B1.out⟩
def LeafE (s : Dk) (i : Int) (w : World) (e : Ending) (w' : World) : Prop := e = .returned (.tuple #[.agg (lv (ldL s i)).toArray, .bool (ldB s i)]) ∧ Below w.heap.size w w'
set_option maxHeartbeats 1000000 in
theorem rleaf_any (F b s) (i : Int) (w : World) (h : DiskAt w F b s) (h0 : -9223372036854775808 ≤ i) (h1 : i ≤ 9223372036854775807) (hw : s.wt.length ≤ 1000000) :
    Calls Try.prog 38 #[.pointer (some ⟨b, 0, none⟩), .int .i64 i] w (LeafE s i w) := by
  have H := Lib.hid h
  have OK := Lib.hid h.ok
  clear h
  go_enter Try.func38, Try.ntmps38
  go_wp2_with (with_reducible refine alloc_leaf rfl rfl ?_)
  intro w1 l1 b1 s1
  obtain ⟨r, hr⟩ : ∃ r, r = w.heap.size := ⟨_, rfl⟩
  rw [← hr] at l1 ⊢
  have L1 := Lib.hid l1; have B1 := Lib.hid b1
  have RD : Hid (Calls Try.prog 52 #[.pointer (some ⟨b, 0, none⟩), .int .i64 i] w1 fun e w' => ReadE s i w1 e w' ∧ Below w1.heap.size w1 w') := Lib.hid (by
    obtain ⟨g, cb, A, c, hl⟩ := H.out.stay (fun q hq => b1.block q (H.out.lt q hq))
    exact read_any F b s g cb A c i w1 hl h0 h1 hw)
  have hrw : w.heap.size ≤ r := by omega
  clear hr b1 s1 l1
  go_wp2_with fail
  refine RD.out.mono ?_
  rintro e w2 ⟨⟨ys, gn, cn, k0, k1, k2, rfl, ho⟩ | ⟨hn, rfl⟩, b2⟩
  · have L2 := Lib.hid (L1.out.below b2)
    have B2 := Lib.hid (bstep B1.out b2)
    have hlen : ys.length = 128 := (Dk.read_blk OK.out (by omega) k2).1
    have E := Lib.hid (leafD_in k0 k1 k2)
    have LO := Lib.hid (ldL_ok OK.out i)
    have GD := Lib.hid (get_any w2.heap.size (some ⟨gn, 0, none⟩) 128 cn ys hlen (by decide) w2 ho.reads (Nat.le_refl _) (by have := ho.cap; omega))
    clear RD L1 B1 k0 k1 k2 ho b2 hlen
    go_wp2_with fail
    refine GD.out.mono ?_
    rintro e w3 ⟨rfl, b3⟩
    have e1 : gotL ys = ldL s i := by unfold gotL ldL; rw [E.out]
    have e2 : gotB ys = ldB s i := by unfold gotB ldB; rw [E.out]
    rw [e1, e2]
    have L3 := Lib.hid (L2.out.below b3)
    have B3 := Lib.hid (bstep B2.out b3)
    clear GD e1 e2 E L2 B2 b3
    go_wp2_with (with_reducible refine store_leaf rfl _ _ rfl r Lf.zero (ldL s i) L3.out LO.out rfl rfl ?_)
    intro w4 l4 k4 s4
    have L4 := Lib.hid l4
    have B4 := Lib.hid (k4.below (fun k hk => by omega) B3.out B3.out.size)
    clear l4 k4 s4
    go_wp2
    exact ret_leaf 4 5 rfl rfl rfl L4.out rfl ⟨rfl, B4.out⟩
  · have L2 := Lib.hid (L1.out.below b2)
    have B2 := Lib.hid (bstep B1.out b2)
    have E := Lib.hid (ld_none (leafD_out hn))
    clear RD L1 B1 hn b2
    go_wp2_with (first | (with_reducible refine build_zero rfl rfl ?_) | (with_reducible refine store_leaf rfl _ _ rfl r Lf.zero Lf.zero L2.out Lf.zero_ok rfl rfl ?_))
    intro w3 l3 k3 s3
    have L3 := Lib.hid l3
    have B3 := Lib.hid (k3.below (fun k hk => by omega) B2.out B2.out.size)
    clear l3 k3 s3
    go_wp2
    refine ret_leaf 4 5 rfl rfl rfl L3.out rfl ⟨?_, B3.out⟩
    rw [E.out.1, E.out.2]
end Go.Proofs.Ytilmicekpclmbaa
namespace Go.Proofs.Ytilmicekpclmbaa
set_option linter.unusedVariables false
set_option linter.unusedSimpArgs false
set_option maxRecDepth 100000
open Go.RowKit

/-- What Step answers: with OK the leaf's bytes, in memory of the call's own. -/
def StepE (s : Dk) (nr place at_ : Int) (w : World) (e : Ending) (w' : World) : Prop :=
  Below w.heap.size w w' ∧ ((stepC s nr place at_ = 0 ∧ ∃ (g c m : Nat), (m : Int) = (ldL s at_).size ∧ e = .returned (.tuple #[.slice (some ⟨g, 0, none⟩) m c, .int .i64 (stepN s at_), .int .i64 0]) ∧ Own w' w.heap.size g c (stepB s at_)) ∨
  (stepC s nr place at_ ≠ 0 ∧ e = .returned (.tuple #[.slice none 0 0, .int .i64 0, .int .i64 (stepC s nr place at_)])))
theorem step_bad {s : Dk} {nr place at_ : Int} {w w' : World} (ho : s.off = false) (h : stepOk s nr place at_ = false) (hb : Below w.heap.size w w') : StepE s nr place at_ w (.returned (.tuple #[.slice none 0 0, .int .i64 0, .int .i64 6])) w' := by
  have e : stepC s nr place at_ = 6 := by unfold stepC; rw [ho, h]; rfl
  exact ⟨hb, Or.inr ⟨by rw [e]; decide, by rw [e]⟩⟩
set_option maxHeartbeats 4000000 in
theorem step_any (F b s) (f : Fl) (place at_ : Int) (w : World) (h : StAt w F b s) (hf : f.Ok) (hp : I64x place) (ha : I64x at_) (hw : s.dk.wt.length ≤ 1000000) :
    Calls Try.prog 21 #[.pointer (some ⟨b, 0, none⟩), .agg #[.int .i64 f.name, .int .i64 f.file, .int .i64 f.first, .int .i64 f.blocks], .int .i64 place, .int .i64 at_] w (StepE s.dk f.file place at_ w) := by
  have H := Lib.hid h
  obtain ⟨f0, f1⟩ := hf.b
  obtain ⟨p0, p1⟩ := hp
  obtain ⟨a0, a1⟩ := ha
  clear h hf
  go_enter Try.func21, Try.ntmps21
  go_upto_region 1 with fail
  obtain ⟨W, hW⟩ : ∃ W, W = w.alloc (.cells #[.int .i64 f.name, .int .i64 f.file, .int .i64 f.first, .int .i64 f.blocks] 40) := ⟨_, rfl⟩
  rw [← hW]
  obtain ⟨q, hq⟩ : ∃ q, q = w.heap.size := ⟨_, rfl⟩
  rw [← hq]
  have B1 : Hid (Below w.heap.size w W) := Lib.hid (by rw [hW]; exact (Below.refl _ w).alloc (Nat.le_refl _) _)
  have FV : Hid (FlV W q f) := Lib.hid (by rw [hW, hq]; exact FlV.new w f)
  have hqw : w.heap.size ≤ q := by omega
  have H1 := Lib.hid (H.out.below B1.out)
  clear hW hq H
  obtain ⟨Fd, d, A, n, c, G, k, hl⟩ := H1.out
  obtain ⟨c0, -, -, -, -, -⟩ := hl.cells
  have OF := Lib.hid (off_eq Fd d s.dk W hl.dk)
  have RL := Lib.hid (rleaf_any Fd d s.dk at_ W hl.dk a0 a1 hw)
  have OK := Lib.hid hl.dk.ok
  clear hl
  go_wp2_with fail
  refine OF.out.mono ?_
  rintro e w2 ⟨rfl, rfl⟩
  clear OF
  cases ho : s.dk.off
  · have HO := Lib.hid ho
    clear ho
    go_wp2_with fail
    refine RL.out.mono ?_
    rintro e w3 ⟨rfl, b3⟩
    have LO := Lib.hid (ldL_ok OK.out at_)
    have LZ := Lib.hid (ldL_size OK.out at_)
    have LN := Lib.hid (stepB_len OK.out at_)
    have B3 := Lib.hid (bstep B1.out b3)
    have FV3 := Lib.hid (FV.out.below b3)
    have KO : Hid (stepOk s.dk f.file place at_ = (ldB s.dk at_ && (decide (2 ≤ at_) && (decide ((ldL s.dk at_).kind = 1) && (decide ((ldL s.dk at_).file = f.file) && decide ((ldL s.dk at_).place = place)))))) := Lib.hid rfl
    have SB : Hid (stepB s.dk at_ = (ldL s.dk at_).load.take (ldL s.dk at_).size.toNat) := Lib.hid rfl
    have SN : Hid (stepN s.dk at_ = (ldL s.dk at_).next) := Lib.hid rfl
    obtain ⟨L, hL⟩ : ∃ L, ldL s.dk at_ = L := ⟨_, rfl⟩
    have HL := Lib.hid hL
    rw [hL] at LO LZ LN KO SB SN ⊢
    clear RL B1 FV H1 c0 b3 hL
    go_wp2_with (with_reducible refine alloc_leaf rfl rfl ?_)
    intro w4 l4 b4 s4
    obtain ⟨r, hr⟩ : ∃ r, r = w3.heap.size := ⟨_, rfl⟩
    rw [← hr] at l4 ⊢
    have L4 := Lib.hid l4
    have B4 := Lib.hid (bstep B3.out b4)
    have FV4 := Lib.hid (FV3.out.below b4)
    have hqr : q < r := by rw [hr]; exact FV3.out.lt
    have hrw : w.heap.size ≤ r := by omega
    clear hr l4 b4 s4 B3 FV3
    go_wp2_with (with_reducible refine store_leaf rfl _ _ rfl r Lf.zero L L4.out LO.out rfl rfl ?_)
    intro w5 l5 k5 s5
    have L5 := Lib.hid l5
    have B5 := Lib.hid (k5.below (fun k hk => by omega) B4.out B4.out.size)
    have FV5 := Lib.hid (Arr.same FV4.out (k5.block q FV4.out.lt (by omega)))
    clear l5 k5 s5 L4 B4 FV4
    have x0 := L5.out.kind; have x1 := L5.out.file; have x2 := L5.out.place
    obtain ⟨-, y1, -, -⟩ := FlV.cells FV5.out
    obtain ⟨kk0, kk1⟩ := LO.out.k; obtain ⟨kf0, kf1⟩ := LO.out.f; obtain ⟨kp0, kp1⟩ := LO.out.p
    by_cases t1 : ldB s.dk at_ = true
    · by_cases t2 : 2 ≤ at_
      · by_cases t3 : L.kind = 1
        · by_cases t4 : L.file = f.file
          · by_cases t5 : L.place = place
            · have C0 : Hid (stepC s.dk f.file place at_ = 0) := Lib.hid (by unfold stepC; rw [HO.out, KO.out, t1]; simp [t2, t3, t4, t5])
              have d2 : decide (at_ < 2) = false := by rw [decide_eq_false_iff_not]; omega
              have d3 : (L.kind != 1) = false := by simp [t3]
              have d4 : (L.file != f.file) = false := by simp [t4]
              have d5 : (L.place != place) = false := by simp [t5]
              obtain ⟨z0, z1⟩ := LZ.out
              clear t2 t3 t4 t5 KO
              rw [t1]
              clear t1
              go_wp2_with fail
              have v3 := L5.out.next; have v4 := L5.out.size
              obtain ⟨sz, hsz⟩ : ∃ sz : Nat, L.size = sz := ⟨L.size.toNat, by omega⟩
              rw [hsz] at v4 z0 z1 LN SB
              have HSZ := Lib.hid hsz
              have hr5 : r < w5.heap.size := L5.out.lt
              have RD : Hid (RdB w5 w5.heap.size (some ⟨r, 5, none⟩) (L.load.take sz)) := Lib.hid (L5.out.reads.take sz)
              have HLL : Hid ((L.load.take sz).length = sz) := Lib.hid (by rw [List.length_take, LO.out.l]; omega)
              have n1 : sz ≤ 116 := by omega
              clear hsz x0 x1 x2 y1
              go_region_held_law (fun w' => w'.cell? ⟨r, 4, none⟩ = some (.int .i64 (sz : Int)) ∧ w'.cell? ⟨r, 3, none⟩ = some (.int .i64 L.next)) (first | exact ⟨v4, v3⟩ | exact ⟨q4, q3⟩)
                ((go_at_call 39; refine (clone_n w5.drew.heap.size ⟨r, 5, none⟩ sz 116 (L.load.take sz) w5.drew (fun k hk => RD.out k hk) (Nat.le_refl _) HLL.out (by omega)).mono ?_; rintro e w6 ⟨gn, cn, rfl, hown, hbel⟩; have q4 := (hbel.cell (p := ⟨r, 4, none⟩) (by show r < w5.heap.size; omega)).trans v4; have q3 := (hbel.cell (p := ⟨r, 3, none⟩) (by show r < w5.heap.size; omega)).trans v3))
              go_wp2
              go_ret3
              refine ⟨(B5.out.drew).trans (hbel.mono (by show w.heap.size ≤ w5.heap.size; exact B5.out.size)), Or.inl ⟨C0.out, gn, cn, sz, by rw [HL.out, HSZ.out], ?_, ?_⟩⟩
              · rw [SN.out]; rfl
              · rw [SB.out, Int.toNat_natCast]
                exact hown.lower (by show w.heap.size ≤ w5.heap.size; exact B5.out.size)
            · have d2 : decide (at_ < 2) = false := by rw [decide_eq_false_iff_not]; omega
              have d3 : (L.kind != 1) = false := by simp [t3]
              have d4 : (L.file != f.file) = false := by simp [t4]
              have d5 : (L.place != place) = true := by simp [t5]
              have N : Hid (stepOk s.dk f.file place at_ = false) := Lib.hid (by rw [KO.out]; simp [t5])
              clear t2 t3 t4 t5 KO
              rw [t1]
              clear t1
              go_wp2
              go_ret3
              exact step_bad HO.out N.out B5.out
          · have d2 : decide (at_ < 2) = false := by rw [decide_eq_false_iff_not]; omega
            have d3 : (L.kind != 1) = false := by simp [t3]
            have d4 : (L.file != f.file) = true := by simp [t4]
            have N : Hid (stepOk s.dk f.file place at_ = false) := Lib.hid (by rw [KO.out]; simp [t4])
            clear t2 t3 t4 KO
            rw [t1]
            clear t1
            go_wp2
            go_ret3
            exact step_bad HO.out N.out B5.out
        · have d2 : decide (at_ < 2) = false := by rw [decide_eq_false_iff_not]; omega
          have d3 : (L.kind != 1) = true := by simp [t3]
          have N : Hid (stepOk s.dk f.file place at_ = false) := Lib.hid (by rw [KO.out]; simp [t3])
          clear t2 t3 KO
          rw [t1]
          clear t1
          go_wp2
          go_ret3
          exact step_bad HO.out N.out B5.out
      · have d2 : decide (at_ < 2) = true := by rw [decide_eq_true_eq]; omega
        have N : Hid (stepOk s.dk f.file place at_ = false) := Lib.hid (by rw [KO.out]; simp [t2])
        clear t2 KO
        rw [t1]
        clear t1
        go_wp2
        go_ret3
        exact step_bad HO.out N.out B5.out
    · have t1 : ldB s.dk at_ = false := by simpa using t1
      have N : Hid (stepOk s.dk f.file place at_ = false) := Lib.hid (by rw [KO.out, t1]; rfl)
      clear KO
      rw [t1]
      clear t1
      go_wp2
      go_ret3
      exact step_bad HO.out N.out B5.out
  · have C7 : Hid (stepC s.dk f.file place at_ = 7) := Lib.hid (by unfold stepC; rw [ho]; rfl)
    clear ho
    go_wp2
    go_ret3
    exact ⟨B1.out, Or.inr ⟨by rw [C7.out]; decide, by rw [C7.out]; rfl⟩⟩
end Go.Proofs.Ytilmicekpclmbaa

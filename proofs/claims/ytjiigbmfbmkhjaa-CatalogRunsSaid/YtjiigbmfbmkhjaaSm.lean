/-
  Lists sorted by an integer key, by insertion, as equals stay in their order; the last of each key. Maths alone.
-/
import Derived.Test.YtjiigbmfbmkhjaaCt
namespace Go.Proofs.Ytjiigbmfbmkhjaa
set_option linter.unusedVariables false
set_option linter.unusedSimpArgs false

theorem snoc_ind {α : Type} {P : List α → Prop} (h0 : P []) (h1 : ∀ l x, P l → P (l ++ [x])) (l : List α) : P l := by
  have h : ∀ r : List α, P r.reverse := fun r => by
    induction r with
    | nil => exact h0
    | cons x r ih => rw [List.reverse_cons]; exact h1 _ _ ih
  have := h l.reverse
  rwa [List.reverse_reverse] at this
section
variable {α : Type} (k : α → Int)
/-- x put behind all that are not greater. -/
def ins (x : α) : List α → List α
  | [] => [x]
  | y :: r => if k y ≤ k x then y :: ins x r else x :: y :: r
def isort (l : List α) : List α := l.foldl (fun acc x => ins k x acc) []
def Rise (l : List α) : Prop := l.Pairwise (fun a b => k a ≤ k b)
def RiseS (l : List α) : Prop := l.Pairwise (fun a b => k a < k b)
theorem isort_snoc (l : List α) (x : α) : isort k (l ++ [x]) = ins k x (isort k l) := by
  unfold isort; rw [List.foldl_append]; rfl
theorem ins_length (x : α) : ∀ l : List α, (ins k x l).length = l.length + 1
  | [] => rfl
  | y :: r => by
    unfold ins
    split
    · rw [List.length_cons, ins_length x r, List.length_cons]
    · rfl
theorem isort_length (l : List α) : (isort k l).length = l.length := by
  induction l using snoc_ind with
  | h0 => rfl
  | h1 l x ih => rw [isort_snoc, ins_length, ih, List.length_append]; rfl
theorem mem_ins (x z : α) : ∀ l : List α, z ∈ ins k x l ↔ z = x ∨ z ∈ l
  | [] => by unfold ins; simp
  | y :: r => by
    unfold ins
    split
    · rw [List.mem_cons, mem_ins x z r, List.mem_cons]
      constructor
      · rintro (h | h | h)
        · exact Or.inr (Or.inl h)
        · exact Or.inl h
        · exact Or.inr (Or.inr h)
      · rintro (h | h | h)
        · exact Or.inr (Or.inl h)
        · exact Or.inl h
        · exact Or.inr (Or.inr h)
    · rw [List.mem_cons]
theorem mem_isort (z : α) (l : List α) : z ∈ isort k l ↔ z ∈ l := by
  induction l using snoc_ind with
  | h0 => rfl
  | h1 l x ih => rw [isort_snoc, mem_ins, ih, List.mem_append, List.mem_singleton]; exact Or.comm
theorem ins_rise (x : α) : ∀ l : List α, Rise k l → Rise k (ins k x l)
  | [], _ => by unfold ins; exact List.pairwise_singleton _ _
  | y :: r, h => by
    unfold ins
    have h' := List.pairwise_cons.1 h
    split
    · rename_i hy
      refine List.pairwise_cons.2 ⟨fun z hz => ?_, ins_rise x r h'.2⟩
      rcases (mem_ins k x z r).1 hz with e | e
      · rw [e]; exact hy
      · exact h'.1 z e
    · rename_i hy
      refine List.pairwise_cons.2 ⟨fun z hz => ?_, h⟩
      rcases List.mem_cons.1 hz with e | e
      · rw [e]; omega
      · have := h'.1 z e; omega
theorem isort_rise (l : List α) : Rise k (isort k l) := by
  induction l using snoc_ind with
  | h0 => exact List.Pairwise.nil
  | h1 l x ih => rw [isort_snoc]; exact ins_rise k x _ ih
/-- Where x lands. -/
theorem ins_at (x : α) (S : List α) (hS : ∀ z, z ∈ S → k x < k z) : ∀ P : List α, (∀ z, z ∈ P → k z ≤ k x) → ins k x (P ++ S) = P ++ x :: S
  | [], _ => by
    cases S with
    | nil => rfl
    | cons y r =>
      show ins k x (y :: r) = x :: y :: r
      unfold ins
      rw [if_neg (by have := hS y (List.mem_cons_self ..); omega)]
  | y :: P, h => by
    show ins k x (y :: (P ++ S)) = y :: (P ++ x :: S)
    unfold ins
    rw [if_pos (h y (List.mem_cons_self ..)), ins_at x S hS P (fun z hz => h z (List.mem_cons_of_mem _ hz))]
theorem rise_last {P : List α} {p x : α} {S : List α} (h : Rise k ((P ++ [p]) ++ S)) (hp : k p ≤ k x) : ∀ z, z ∈ P ++ [p] → k z ≤ k x := fun z hz => by
  have h1 := (List.pairwise_append.1 h).1
  rcases List.mem_append.1 hz with e | e
  · have := (List.pairwise_append.1 h1).2.2 z e p (by simp); omega
  · rw [List.mem_singleton.1 e]; exact hp
/-- Equals stay in their order. -/
theorem ins_filter (n : Int) (x : α) : ∀ l : List α, Rise k l → (ins k x l).filter (fun z => k z == n) = l.filter (fun z => k z == n) ++ (if k x == n then [x] else [])
  | [], _ => by
    unfold ins
    rw [List.filter_cons]
    split <;> rfl
  | y :: r, h => by
    have h' := List.pairwise_cons.1 h
    unfold ins
    split
    · rw [List.filter_cons, ins_filter n x r h'.2, List.filter_cons (x := y)]
      split <;> rfl
    · rename_i hy
      rw [List.filter_cons (x := x)]
      split
      · rename_i hx
        have hx : k x = n := by simpa using hx
        have : (y :: r).filter (fun z => k z == n) = [] := by
          rw [List.filter_eq_nil_iff]
          intro z hz hzn
          have hzn : k z = n := by simpa using hzn
          rcases List.mem_cons.1 hz with e | e
          · rw [e] at hzn; omega
          · have := h'.1 z e; omega
        rw [this]; rfl
      · rw [List.append_nil]
theorem isort_filter (n : Int) (l : List α) : (isort k l).filter (fun z => k z == n) = l.filter (fun z => k z == n) := by
  induction l using snoc_ind with
  | h0 => rfl
  | h1 l x ih =>
    rw [isort_snoc, ins_filter k n x _ (isort_rise k l), ih, List.filter_append]
    congr 1
    rw [List.filter_cons]
    split <;> rfl
/-- The last of each key, of a list that rises. -/
def lasts : List α → List α
  | [] => []
  | [x] => [x]
  | x :: y :: r => if k y = k x then lasts (y :: r) else x :: lasts (y :: r)
theorem lasts_mem (z : α) : ∀ l : List α, z ∈ lasts k l → z ∈ l
  | [], h => by cases h
  | [x], h => h
  | x :: y :: r, h => by
    unfold lasts at h
    split at h
    · exact List.mem_cons_of_mem _ (lasts_mem z (y :: r) h)
    · rcases List.mem_cons.1 h with e | e
      · rw [e]; exact List.mem_cons_self ..
      · exact List.mem_cons_of_mem _ (lasts_mem z (y :: r) e)
theorem lasts_riseS : ∀ l : List α, Rise k l → RiseS k (lasts k l)
  | [], _ => List.Pairwise.nil
  | [x], _ => List.pairwise_singleton _ _
  | x :: y :: r, h => by
    have h' := List.pairwise_cons.1 h
    have h2 := List.pairwise_cons.1 h'.2
    unfold lasts
    split
    · exact lasts_riseS _ h'.2
    · rename_i hy
      refine List.pairwise_cons.2 ⟨fun z hz => ?_, lasts_riseS _ h'.2⟩
      have hm := lasts_mem k z _ hz
      have h0 := h'.1 y (List.mem_cons_self ..)
      rcases List.mem_cons.1 hm with e | e
      · rw [e]; omega
      · have := h2.1 z e; omega
theorem lasts_length : ∀ l : List α, (lasts k l).length ≤ l.length
  | [] => Nat.le_refl _
  | [x] => Nat.le_refl _
  | x :: y :: r => by
    have := lasts_length (y :: r)
    rw [List.length_cons] at this
    unfold lasts
    split
    · rw [List.length_cons, List.length_cons]; omega
    · rw [List.length_cons, List.length_cons, List.length_cons]; omega
/-- The first of a key. -/
def fnd (n : Int) (l : List α) : Option α := l.find? (fun z => k z == n)
theorem fnd_filter (n : Int) (l : List α) : fnd k n l = (l.filter (fun z => k z == n)).head? := by
  unfold fnd; rw [List.head?_filter]
theorem fnd_none {n : Int} {l : List α} : fnd k n l = none ↔ ∀ z, z ∈ l → k z ≠ n := by
  unfold fnd
  rw [List.find?_eq_none]
  exact ⟨fun h z hz e => h z hz (by simpa using e), fun h z hz e => h z hz (by simpa using e)⟩
theorem fnd_lasts (n : Int) : ∀ l : List α, Rise k l → fnd k n (lasts k l) = (l.filter (fun z => k z == n)).getLast?
  | [], _ => rfl
  | [x], _ => by
    unfold lasts fnd
    rw [List.find?_cons, List.filter_cons]
    split
    · rename_i h; rw [if_pos h]; rfl
    · rename_i h; rw [if_neg (by rw [h]; decide)]; rfl
  | x :: y :: r, h => by
    have h' := List.pairwise_cons.1 h
    have ih := fnd_lasts n (y :: r) h'.2
    unfold lasts
    split
    · rename_i hy
      rw [ih, List.filter_cons (x := x)]
      split
      · rename_i hx
        have hx : k x = n := by simpa using hx
        have hyn : (k y == n) = true := by simpa using (hy.trans hx)
        rw [List.filter_cons (x := y), if_pos hyn, List.getLast?_cons_cons]
      · rfl
    · rename_i hy
      unfold fnd at ih ⊢
      rw [List.find?_cons]
      have h2 := List.pairwise_cons.1 h'.2
      have h0 := h'.1 y (List.mem_cons_self ..)
      cases hx : (k x == n)
      · rw [ih, List.filter_cons (x := x), hx]; rfl
      · have hx' : k x = n := by simpa using hx
        have e : (y :: r).filter (fun z => k z == n) = [] := by
          rw [List.filter_eq_nil_iff]
          intro z hz hzn
          have hzn : k z = n := by simpa using hzn
          rcases List.mem_cons.1 hz with e | e
          · rw [e] at hzn; omega
          · have := h2.1 z e; omega
        rw [List.filter_cons (x := x), hx, e]; rfl
theorem riseS_rise {l : List α} (h : RiseS k l) : Rise k l := List.Pairwise.imp (fun h => by omega) h
/-- Of a list without two of a key the order does not matter. -/
theorem fnd_isort (n : Int) (l : List α) : fnd k n (isort k l) = fnd k n l := by rw [fnd_filter, fnd_filter, isort_filter]
theorem riseS_of {l : List α} (h : Rise k l) (hd : l.Pairwise (fun a b => k a ≠ k b)) : RiseS k l := by
  induction l with
  | nil => exact List.Pairwise.nil
  | cons x r ih =>
    have h1 := List.pairwise_cons.1 h
    have h2 := List.pairwise_cons.1 hd
    exact List.pairwise_cons.2 ⟨fun z hz => by have := h1.1 z hz; have := h2.1 z hz; omega, ih h1.2 h2.2⟩
theorem ins_apart (x : α) : ∀ l : List α, (∀ z, z ∈ l → k z ≠ k x) → l.Pairwise (fun a b => k a ≠ k b) → (ins k x l).Pairwise (fun a b => k a ≠ k b)
  | [], _, _ => by unfold ins; exact List.pairwise_singleton _ _
  | y :: r, h, hd => by
    have hd' := List.pairwise_cons.1 hd
    unfold ins
    split
    · refine List.pairwise_cons.2 ⟨fun z hz => ?_, ins_apart x r (fun z hz => h z (List.mem_cons_of_mem _ hz)) hd'.2⟩
      rcases (mem_ins k x z r).1 hz with e | e
      · rw [e]; exact h y (List.mem_cons_self ..)
      · exact hd'.1 z e
    · exact List.pairwise_cons.2 ⟨fun z hz => fun e => h z hz e.symm, hd⟩
theorem isort_apart (l : List α) (hd : l.Pairwise (fun a b => k a ≠ k b)) : (isort k l).Pairwise (fun a b => k a ≠ k b) := by
  induction l using snoc_ind with
  | h0 => exact List.Pairwise.nil
  | h1 l x ih =>
    have h := List.pairwise_append.1 hd
    rw [isort_snoc]
    refine ins_apart k x _ (fun z hz => h.2.2 z ((mem_isort k z l).1 hz) x (by simp)) (ih h.1)
theorem isort_riseS {l : List α} (hd : l.Pairwise (fun a b => k a ≠ k b)) : RiseS k (isort k l) := riseS_of k (isort_rise k l) (isort_apart k l hd)
end
/-- What With makes of the files. -/
def withF (fs put : List Fl) (gone : List Int) : List Fl :=
  isort Fl.name (lasts Fl.name (isort Fl.name put) ++ fs.filter (fun f => !decide (f.name ∈ gone ++ (lasts Fl.name (isort Fl.name put)).map Fl.name)))
theorem withF_rise (fs put : List Fl) (gone : List Int) (h : RiseS Fl.name fs) : RiseS Fl.name (withF fs put gone) := by
  refine isort_riseS Fl.name (List.pairwise_append.2 ⟨?_, ?_, ?_⟩)
  · exact List.Pairwise.imp (fun h => by omega) (lasts_riseS Fl.name _ (isort_rise Fl.name put))
  · exact List.Pairwise.imp (fun h => by omega) (List.Pairwise.filter _ h)
  · intro a ha b hb e
    have hb := (List.mem_filter.1 hb).2
    simp only [Bool.not_eq_true', decide_eq_false_iff_not] at hb
    exact hb (List.mem_append_right _ (by rw [← e]; exact List.mem_map_of_mem ha))
/-- The last put of a name. -/
def putOf (n : Int) (put : List Fl) : Option Fl := (put.filter (fun z => z.name == n)).getLast?
theorem lasts_put (n : Int) (put : List Fl) : fnd Fl.name n (lasts Fl.name (isort Fl.name put)) = putOf n put := by
  rw [fnd_lasts Fl.name n _ (isort_rise Fl.name put), isort_filter]; rfl
theorem withF_fnd (fs put : List Fl) (gone : List Int) (n : Int) : fnd Fl.name n (withF fs put gone) = (putOf n put).or (if n ∈ gone then none else fnd Fl.name n fs) := by
  unfold withF
  rw [fnd_isort]
  have e : fnd Fl.name n (lasts Fl.name (isort Fl.name put)) = putOf n put := lasts_put n put
  unfold fnd at e ⊢
  rw [List.find?_append, e]
  cases hp : putOf n put with
  | some x => rfl
  | none =>
    rw [hp] at e
    rw [Option.none_or, Option.none_or, List.find?_filter]
    have hno : n ∉ (lasts Fl.name (isort Fl.name put)).map Fl.name := fun hm => by
      obtain ⟨z, hz, hzn⟩ := List.mem_map.1 hm
      have := List.find?_eq_none.1 e z hz
      simp [hzn] at this
    split
    · rename_i hg
      rw [List.find?_eq_none]
      intro z hz
      intro h1
      simp only [Bool.and_eq_true, Bool.not_eq_true', decide_eq_false_iff_not, beq_iff_eq, decide_eq_true_eq] at h1
      exact h1.1 (List.mem_append_left _ (by rw [h1.2]; exact hg))
    · rename_i hg
      congr 1
      funext z
      rw [Bool.eq_iff_iff]
      simp only [Bool.and_eq_true, Bool.not_eq_true', decide_eq_false_iff_not, beq_iff_eq, List.mem_append, decide_eq_true_eq]
      constructor
      · exact fun h => h.2
      · intro h
        refine ⟨?_, h⟩
        rw [h]
        rintro (q | q)
        · exact hg q
        · exact hno q
end Go.Proofs.Ytjiigbmfbmkhjaa

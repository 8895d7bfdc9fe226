/-
  LoserPlays' books: which source comes next, how often each was asked: maths alone; its sources as they are made.
-/
import Derived.Test.YtimfmflnaehmgaaLRv
import Derived.Lib.MinMax
namespace Go.Proofs.Ytimfmflnaehmgaa
set_option linter.unusedVariables false
set_option linter.unusedSimpArgs false
set_option maxRecDepth 100000
open Go.RowKit

/-- A slice of slices of ints that came in. -/
abbrev GRow := Option Addr × Nat × List Int
structure GIn (w : World) (A : Option Addr) (n : Nat) (g : Nat → GRow) : Prop where
  row : ∀ k, k < n → ∃ b o, A = some ⟨b, o, none⟩ ∧ b < w.heap.size ∧ w.cell? ⟨b, o + k, none⟩ = some (.slice (g k).1 (g k).2.2.length (g k).2.1) ∧ IRz w (g k).1 (g k).2.2 ∧ (g k).2.2.length ≤ 281474976710656
theorem IRz.lt {w : World} {A : Option Addr} {xs : List Int} (h : IRz w A xs) (a : Addr) (ha : xs ≠ [] ∧ A = some a) : a.block < w.heap.size := by
  obtain ⟨x, r, rfl⟩ : ∃ x r, xs = x :: r := by
    cases xs with
    | nil => exact absurd rfl ha.1
    | cons x r => exact ⟨x, r, rfl⟩
  obtain ⟨g, o, h1, h2, _⟩ := h 0 x rfl
  rw [h1] at ha
  have := ha.2
  injection this with this
  subst this
  exact h2
theorem GIn.below {w w' : World} {A : Option Addr} {n : Nat} {g : Nat → GRow} (h : GIn w A n g) (k : Below w.heap.size w w') : GIn w' A n g := ⟨fun i hi => by
  obtain ⟨b, o, h1, h2, h3, h4, h5⟩ := h.row i hi
  exact ⟨b, o, h1, Nat.lt_of_lt_of_le h2 k.size, by rw [World.cell?_of_block (w := w) (a := ⟨b, o + i, none⟩) (k.block b h2)]; exact h3, h4.below k, h5⟩⟩
theorem GIn.take {w : World} {A : Option Addr} {n m : Nat} {g : Nat → GRow} (h : GIn w A n g) (hm : m ≤ n) : GIn w A m g := ⟨fun k hk => h.row k (by omega)⟩
/-- What is left of each row behind the places 'at'. -/
def rat (g : Nat → GRow) (K : Nat) (at_ : List Nat) : List (List Int) := (List.range K).map (fun i => (g i).2.2.drop (at_.getD i 0))
theorem rat_len (g : Nat → GRow) (K : Nat) (a : List Nat) : (rat g K a).length = K := by unfold rat; simp
theorem rat_at (g : Nat → GRow) (K : Nat) (a : List Nat) (i : Nat) (h : i < K) : (rat g K a)[i]? = some ((g i).2.2.drop (a.getD i 0)) := by
  unfold rat
  rw [List.getElem?_map, List.getElem?_range h]; rfl
theorem rat_getD (g : Nat → GRow) (K : Nat) (a : List Nat) (i : Nat) (h : i < K) : (rat g K a).getD i [] = (g i).2.2.drop (a.getD i 0) := by
  rw [List.getD_eq_getElem?_getD, rat_at g K a i h]; rfl
theorem rat_live (g : Nat → GRow) (K : Nat) (a : List Nat) (i : Nat) (h : i < K) : hlive (rat g K a) i = decide (a.getD i 0 < (g i).2.2.length) := by
  unfold hlive
  rw [rat_getD g K a i h]
  generalize a.getD i 0 = m
  rcases Nat.lt_or_ge m (g i).2.2.length with e | e
  · rw [List.drop_eq_getElem_cons e]; simp [e]
  · rw [List.drop_of_length_le e]; simp; omega
theorem rat_key (g : Nat → GRow) (K : Nat) (a : List Nat) (i : Nat) (h : i < K) (x : Int) (hx : (g i).2.2[a.getD i 0]? = some x) : hkey (rat g K a) i = x := by
  unfold hkey
  rw [rat_getD g K a i h]
  have hl := (List.getElem?_eq_some_iff.1 hx).1
  rw [List.drop_eq_getElem_cons hl]
  rw [List.getElem?_eq_getElem hl] at hx
  injection hx
theorem rat_set (g : Nat → GRow) (K : Nat) (a : List Nat) (i : Nat) (h : i < K) (ha : a.length = K) (x : Int) (u : List Int) (hx : (rat g K a)[i]? = some (x :: u)) : (rat g K a).set i u = rat g K (a.set i (a.getD i 0 + 1)) := by
  rw [rat_at g K a i h] at hx
  injection hx with hx
  apply List.ext_getElem?
  intro j
  by_cases hj : j < K
  · rw [rat_at g K _ j hj, List.getElem?_set, rat_len]
    by_cases e : i = j
    · subst e
      rw [if_pos rfl, if_pos hj, List.getD_eq_getElem?_getD, List.getElem?_set_self (by omega)]
      show some u = some (List.drop (a.getD i 0 + 1) _)
      rw [← List.drop_drop, hx]
      rfl
    · rw [if_neg e, rat_at g K a j hj, List.getD_eq_getElem?_getD (l := a.set i _), List.getElem?_set_ne e, ← List.getD_eq_getElem?_getD]
  · rw [List.getElem?_eq_none (by rw [List.length_set, rat_len]; omega), List.getElem?_eq_none (by rw [rat_len]; omega)]
/-- The best one of the first i, as the law's variable holds it. -/
def BestTo (R : List (List Int)) (i : Nat) (bv : Int) : Prop := (bv = -1 ∧ ∀ j, j < i → hlive R j = false) ∨ ∃ b : Nat, bv = (b : Int) ∧ Best (hkey R) (hlive R) i b
theorem BestTo.zero (R : List (List Int)) : BestTo R 0 (-1) := Or.inl ⟨rfl, fun j hj => by omega⟩
theorem BestTo.dead {R : List (List Int)} {i : Nat} {bv : Int} (h : BestTo R i bv) (hl : hlive R i = false) : BestTo R (i + 1) bv := by
  rcases h with ⟨h1, h2⟩ | ⟨b, h1, h2, h3, h4, h5⟩
  · refine Or.inl ⟨h1, fun j hj => ?_⟩
    by_cases e : j = i
    · rw [e]; exact hl
    · exact h2 j (by omega)
  · refine Or.inr ⟨b, h1, by omega, h3, fun j hj hlj => ?_, h5⟩
    by_cases e : j = i
    · rw [e, hl] at hlj; cases hlj
    · exact h4 j (by omega) hlj
theorem BestTo.first {R : List (List Int)} {i : Nat} (h : BestTo R i (-1)) (hl : hlive R i = true) : BestTo R (i + 1) (i : Int) := by
  rcases h with ⟨_, h2⟩ | ⟨b, h1, _⟩
  · refine Or.inr ⟨i, rfl, by omega, hl, fun j hj hlj => ?_, fun j hj hlj => ?_⟩
    · by_cases e : j = i
      · rw [e]; exact Int.le_refl _
      · rw [h2 j (by omega)] at hlj; cases hlj
    · rw [h2 j hj] at hlj; cases hlj
  · omega
theorem BestTo.less {R : List (List Int)} {i b : Nat} (h : BestTo R i (b : Int)) (hl : hlive R i = true) (hk : hkey R i < hkey R b) : BestTo R (i + 1) (i : Int) := by
  rcases h with ⟨h1, _⟩ | ⟨b', h1, h2, h3, h4, h5⟩
  · omega
  · obtain rfl : b = b' := by omega
    refine Or.inr ⟨i, rfl, by omega, hl, fun j hj hlj => ?_, fun j hj hlj => ?_⟩
    · by_cases e : j = i
      · rw [e]; exact Int.le_refl _
      · have := h4 j (by omega) hlj; omega
    · have := h4 j hj hlj; omega
theorem BestTo.more {R : List (List Int)} {i b : Nat} (h : BestTo R i (b : Int)) (hk : ¬ hkey R i < hkey R b) : BestTo R (i + 1) (b : Int) := by
  rcases h with ⟨h1, _⟩ | ⟨b', h1, h2, h3, h4, h5⟩
  · omega
  · obtain rfl : b = b' := by omega
    refine Or.inr ⟨b, rfl, by omega, h3, fun j hj hlj => ?_, h5⟩
    by_cases e : j = i
    · rw [e]; omega
    · exact h4 j (by omega) hlj
theorem BestTo.lt {R : List (List Int)} {i b : Nat} (h : BestTo R i (b : Int)) : b < i ∧ hlive R b = true := by
  rcases h with ⟨h1, _⟩ | ⟨b', h1, h2, h3, _⟩
  · omega
  · obtain rfl : b = b' := by omega
    exact ⟨h2, h3⟩
theorem lives_take (R : List (List Int)) (i : Nat) (h : i < R.length) : lives (R.take (i + 1)) = lives (R.take i) + (if hlive R i then 1 else 0) := by
  unfold lives hlive
  rw [List.take_add_one, List.getElem?_eq_getElem h, List.filter_append, List.length_append, List.getD_eq_getElem?_getD, List.getElem?_eq_getElem h]
  congr 1
  show (List.filter _ [R[i]]).length = _
  rw [List.filter_cons]
  show (if (!R[i].isEmpty) = true then _ else _ : List (List Int)).length = if (!R[i].isEmpty) = true then 1 else 0
  split <;> rfl
/-- How often the first n sources of a law that gives each its own counter were asked by New. -/
theorem asked_once (ga : Nat) : ∀ (ss : List Sr), (∀ (i : Nat) (s : Sr), ss[i]? = some s → s.pg = ga ∧ s.po = i) → ∀ n, n ≤ ss.length → ∀ o, ((ss.take n).foldl (fun q s => up q s.pg s.po) (fun _ _ => 0)) ga o = if o < n then 1 else 0 := by
  intro ss hs n
  induction n with
  | zero => intro _ o; simp
  | succ n ih =>
    intro hn o
    obtain ⟨s, h1⟩ : ∃ s, ss[n]? = some s := ⟨_, List.getElem?_eq_getElem (by omega)⟩
    obtain ⟨e1, e2⟩ := hs n s h1
    have ihh := ih (by omega) o
    rw [List.take_add_one, h1, List.foldl_append]
    generalize (ss.take n).foldl (fun q s => up q s.pg s.po) (fun _ _ => 0) = Q at ihh ⊢
    show up Q s.pg s.po ga o = _
    unfold up
    rw [e1, e2, ihh]
    by_cases e : o = n
    · subst e; simp
    · rw [if_neg (fun q => e q.2)]
      by_cases h : o < n
      · rw [if_pos h, if_pos (by omega)]
      · rw [if_neg h, if_neg (by omega)]
end Go.Proofs.Ytimfmflnaehmgaa

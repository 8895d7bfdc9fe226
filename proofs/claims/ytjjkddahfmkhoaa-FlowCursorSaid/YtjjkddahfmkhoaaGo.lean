/-
  Joins of rows that rise: what is found is what is there.
-/
import Derived.Test.YtjjkddahfmkhoaaGm
namespace Go.Proofs.Ytjjkddahfmkhoaa
set_option linter.unusedVariables false
set_option linter.unusedSimpArgs false
open Go.RowKit Go.Shelf

theorem cmp_pos {a b : Int} : 0 < cmpI a b ↔ b < a := by
  unfold cmpI
  split
  · constructor <;> intro <;> omega
  · split
    · constructor <;> intro <;> omega
    · constructor <;> intro <;> omega
theorem cmp_zero {a b : Int} : cmpI a b = 0 ↔ a = b := by
  unfold cmpI
  split
  · constructor <;> intro <;> omega
  · split
    · constructor <;> intro <;> omega
    · constructor <;> intro <;> omega
/-- What dropWhile drops. -/
theorem drop_parts {p : Int → Bool} : ∀ l : List Int, ∃ d, l = d ++ l.dropWhile p ∧ (∀ x, x ∈ d → p x = true) ∧ ∀ x r, l.dropWhile p = x :: r → p x = false
  | [] => ⟨[], rfl, fun x h => by simp at h, fun x r h => by simp at h⟩
  | y :: l => by
    obtain ⟨d, h1, h2, h3⟩ := drop_parts (p := p) l
    cases hp : p y with
    | true =>
      refine ⟨y :: d, ?_, fun x hx => ?_, fun x r h => ?_⟩
      · rw [List.dropWhile_cons, if_pos hp, List.cons_append, ← h1]
      · rcases List.mem_cons.1 hx with rfl | hx
        · exact hp
        · exact h2 x hx
      · rw [List.dropWhile_cons, if_pos hp] at h
        exact h3 x r h
    | false =>
      have hn : ¬ (p y = true) := by rw [hp]; decide
      refine ⟨[], ?_, fun x hx => by simp at hx, fun x r h => ?_⟩
      · rw [List.dropWhile_cons, if_neg hn]; rfl
      · rw [List.dropWhile_cons, if_neg hn] at h
        injection h with h _
        rw [← h]; exact hp
/-- What a join has passed is below one of its rows. -/
theorem jrem_parts (bs pre : List Int) : ∃ d, bs = d ++ jrem bs pre ∧ ∀ x, x ∈ d → ∃ a, a ∈ pre ∧ x < a :=
  snoc_ind (p := fun pre => ∃ d, bs = d ++ jrem bs pre ∧ ∀ x, x ∈ d → ∃ a, a ∈ pre ∧ x < a) ⟨[], rfl, fun x h => by simp at h⟩ (fun pre a ih => by
    obtain ⟨d, h1, h2⟩ := ih
    obtain ⟨d2, k1, k2, _⟩ := drop_parts (p := fun b => decide (0 < cmpI a b)) (jrem bs pre)
    refine ⟨d ++ d2, ?_, fun x hx => ?_⟩
    · show bs = _ ++ jrem bs (pre ++ [a])
      rw [jrem_snoc, List.append_assoc, ← k1]; exact h1
    · rcases List.mem_append.1 hx with hx | hx
      · obtain ⟨a', h3, h4⟩ := h2 x hx
        exact ⟨a', by simp [h3], h4⟩
      · have := k2 x hx
        simp at this
        exact ⟨a, by simp, cmp_pos.1 this⟩) pre
theorem jfind_iff {bs pre : List Int} {a : Int} (hb : bs.Pairwise (· < ·)) (hp : ∀ x, x ∈ pre → x ≤ a) : jfind bs pre a = if a ∈ bs then some a else none := by
  obtain ⟨d, h1, h2⟩ := jrem_parts bs pre
  obtain ⟨d2, k1, k2, k3⟩ := drop_parts (p := fun b => decide (0 < cmpI a b)) (jrem bs pre)
  unfold jfind
  rw [jrem_snoc]
  have low : ∀ x, x ∈ d → x < a := fun x hx => by obtain ⟨a', h3, h4⟩ := h2 x hx; have := hp a' h3; omega
  have low2 : ∀ x, x ∈ d2 → x < a := fun x hx => by have := k2 x hx; simp at this; exact cmp_pos.1 this
  have mem : a ∈ bs → a ∈ (jrem bs pre).dropWhile (fun b => decide (0 < cmpI a b)) := fun h => by
    rw [h1] at h
    rcases List.mem_append.1 h with h | h
    · have := low a h; omega
    · rw [k1] at h
      rcases List.mem_append.1 h with h | h
      · have := low2 a h; omega
      · exact h
  cases hr : (jrem bs pre).dropWhile (fun b => decide (0 < cmpI a b)) with
  | nil =>
    rw [hr] at mem
    have : ¬ a ∈ bs := fun h => by have := mem h; simp at this
    rw [if_neg this]
  | cons b r =>
    have nb := k3 b r hr
    simp at nb
    have nb2 : ¬ b < a := fun h => by have := cmp_pos.2 h; omega
    have inb : b ∈ bs := by rw [h1, k1, hr]; simp
    show (if cmpI a b = 0 then some b else none) = _
    by_cases hab : a = b
    · subst hab
      rw [if_pos (cmp_zero.2 rfl), if_pos inb]
    · rw [if_neg (fun h => hab (cmp_zero.1 h)), if_neg]
      intro h
      have h := mem h
      rw [hr] at h
      rcases List.mem_cons.1 h with h | h
      · exact hab h
      · have pw : (b :: r).Pairwise (· < ·) := by
          rw [h1, k1, hr] at hb
          exact (List.pairwise_append.1 (List.pairwise_append.1 hb).2.1).2.1
        have := (List.pairwise_cons.1 pw).1 a h
        omega
theorem jout_at (bs xs : List Int) : ∀ (i : Nat) (x : Int), xs[i]? = some x → (jout bs xs)[2 * i]? = some x ∧ (jout bs xs)[2 * i + 1]? = some (jflag bs (xs.take i) x) :=
  snoc_ind (p := fun xs => ∀ (i : Nat) (x : Int), xs[i]? = some x → (jout bs xs)[2 * i]? = some x ∧ (jout bs xs)[2 * i + 1]? = some (jflag bs (xs.take i) x)) (fun i x h => by simp at h) (fun xs y ih i x h => by
    have hl := jout_len bs xs
    rw [jout_snoc]
    rcases Nat.lt_or_ge i xs.length with e | e
    · rw [List.getElem?_append_left e] at h
      obtain ⟨h1, h2⟩ := ih i x h
      rw [List.append_assoc, List.getElem?_append_left (by omega), List.getElem?_append_left (by omega), List.take_append_of_le_length (by omega)]
      exact ⟨h1, h2⟩
    · have e2 : i = xs.length := by
        have := (List.getElem?_eq_some_iff.1 h).1
        rw [List.length_append] at this; simp at this; omega
      subst e2
      have hx : y = x := by rw [List.getElem?_append_right (Nat.le_refl _)] at h; simpa using h
      subst hx
      rw [List.append_assoc, List.take_append_of_le_length (Nat.le_refl _), List.take_length]
      refine ⟨?_, ?_⟩
      · rw [List.getElem?_append_right (by omega), hl, Nat.sub_self]; rfl
      · rw [List.getElem?_append_right (by omega), hl, show 2 * xs.length + 1 - 2 * xs.length = 1 by omega]; rfl) xs
/-- Of rising rows the flag says whether the row is there. -/
theorem jflag_of {bs xs : List Int} {i : Nat} {x : Int} (hb : bs.Pairwise (· < ·)) (ha : xs.Pairwise (· ≤ ·)) (h : xs[i]? = some x) : jflag bs (xs.take i) x = if x ∈ bs then 1 else 0 := by
  have hp : ∀ y, y ∈ xs.take i → y ≤ x := fun y hy => by
    have e := take_at h
    rw [← e] at ha
    exact (List.pairwise_append.1 ha).2.2 y hy x (by simp)
  unfold jflag
  rw [jfind_iff hb hp]
  by_cases hx : x ∈ bs
  · rw [if_pos hx, if_pos hx]; rfl
  · rw [if_neg hx, if_neg hx]; rfl
end Go.Proofs.Ytjjkddahfmkhoaa

/-
  Store, maths alone: a chain that is asked for one block more than it has; what made's files are.
-/
import Derived.Test.YtilmicekpclmbaaSMd
namespace Go.Proofs.Ytilmicekpclmbaa
set_option linter.unusedVariables false
set_option linter.unusedSimpArgs false
set_option maxRecDepth 100000
open Go.RowKit

theorem step_nought {s : Dk} (ho : s.off = false) (nr p : Int) : stepC s nr p 0 = 6 := by
  have h : ¬ stepC s nr p 0 = 0 := fun h => by
    obtain ⟨L, _, h2, _⟩ := stepC_zero.1 h
    omega
  rcases stepC_cases s nr p 0 with e | e | e
  · exact absurd e h
  · exact e
  · unfold stepC at e
    rw [ho] at e
    split at e
    · rename_i q; cases q
    · split at e <;> omega
theorem Ch.more {s : Dk} (ho : s.off = false) {nr : Int} : ∀ {l : List (Int × List Int)} {p : Int}, Ch s nr p l 0 → chainR s nr (l.length + 1) p (headA l 0) = l.map (fun x => ⟨x.1, x.2, 0⟩) ++ [⟨0, [], 6⟩]
  | [], p, _ => by
    show (if stepC s nr p 0 = 0 then _ else [(⟨0, [], stepC s nr p 0⟩ : Pt)]) = [⟨0, [], 6⟩]
    rw [step_nought ho, if_neg (by decide)]
  | x :: r, p, h => by
    obtain ⟨a1, ⟨L, b1, b2, b3, b4, b5, b6⟩, a3⟩ := h
    have hc : stepC s nr p x.1 = 0 := stepC_zero.2 ⟨L, b1, a1, b2, b3, b4⟩
    show chainR s nr (r.length + 1 + 1) p x.1 = _
    rw [chainR_in hc]
    have e1 : ldL s x.1 = L := (ld_some b1).1
    have e2 : stepB s x.1 = x.2 := by unfold stepB; rw [e1]; exact b5
    have e3 : stepN s x.1 = headA r 0 := by unfold stepN; rw [e1]; exact b6
    rw [e2, e3, Ch.more ho a3]
    rfl
theorem Lies.more {s : Dk} (ho : s.off = false) {f : Fl} {l : List (Int × List Int)} (h : Lies s f l) : chainP s { f with blocks := f.blocks + 1 } = l.map (fun x => ⟨x.1, x.2, 0⟩) ++ [⟨0, [], 6⟩] := by
  unfold chainP
  show chainR s f.file (f.blocks + 1).toNat 0 f.first = _
  rw [h.n, h.h, show ((l.length : Int) + 1).toNat = l.length + 1 by omega]
  exact h.c.more ho
theorem full_len : ∀ {l : List (Int × List Int)}, (∀ x, x ∈ l → x.2.length = 116) → ((l.map (·.2)).flatten).length = 116 * l.length
  | [], _ => rfl
  | x :: l, h => by
    have ih := full_len (l := l) (fun y hy => h y (List.mem_cons_of_mem _ hy))
    have a := h x (List.mem_cons_self ..)
    rw [List.map_cons, List.flatten_cons, List.length_append, ih, a, List.length_cons]
    omega
theorem full_le {l : List (Int × List Int)} (h : Full l) (hl : ((l.map (·.2)).flatten).length ≤ 300) : l.length ≤ 3 := by
  rcases Nat.eq_zero_or_pos l.length with e | e
  · omega
  · have hne : l ≠ [] := fun q => by rw [q] at e; simp at e
    have hd := full_len h.1
    have e2 : l = l.dropLast ++ [l.getLast hne] := (List.dropLast_concat_getLast hne).symm
    rw [e2, List.map_append, List.flatten_append, List.length_append, hd, List.length_dropLast] at hl
    omega
theorem made_three {S : Nat → Nat} {fl : List (Fl × List (Int × List Int))} (h : told fl = want (madeFs S) 255 1) : ∃ z1 z2 z3, fl = [z1, z2, z3] ∧ (z1.1.name = 1 ∧ (z1.2.map (·.2)).flatten = mkB 0 (S 0)) ∧ (z2.1.name = 2 ∧ (z2.2.map (·.2)).flatten = mkB 1 (S 1)) ∧ z3.1.name = 3 ∧ (z3.2.map (·.2)).flatten = mkB 2 (S 2) := by
  rw [madeFs_want] at h
  unfold told at h
  match fl, h with
  | [], h => cases h
  | [_], h => simp at h
  | [_, _], h => simp at h
  | [z1, z2, z3], h =>
    simp only [List.map_cons, List.map_nil, List.cons.injEq, Prod.mk.injEq, and_true] at h
    obtain ⟨⟨a, b⟩, ⟨c, d⟩, e, f⟩ := h
    exact ⟨z1, z2, z3, rfl, ⟨a, b⟩, ⟨c, d⟩, e, f⟩
  | _ :: _ :: _ :: _ :: _, h => simp at h
end Go.Proofs.Ytilmicekpclmbaa

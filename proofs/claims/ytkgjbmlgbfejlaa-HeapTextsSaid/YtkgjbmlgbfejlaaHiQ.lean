/-
  Heaps of ints that a law made: what Push, Pop, Top, Len leave of everything else.
-/
import Derived.Test.YtkgjbmlgbfejlaaHiP
namespace Go.Proofs.Ytkgjbmlgbfejlaa
set_option linter.unusedVariables false
set_option linter.unusedSimpArgs false
open Go.RowKit

/-- Blocks of other kinds are as they were. -/
def HI.Apart (w w' : World) : Prop := w.heap.size ≤ w'.heap.size ∧ ∀ (b : Nat) (cur : Array Value) (T : TypeId), w.heap[b]? = some (.cells cur T (0, 0)) → T ≠ 62 → T ≠ 59 → w'.heap[b]? = w.heap[b]?
theorem HI.Apart.below {w w' : World} (h : Below w.heap.size w w') : HI.Apart w w' := ⟨h.size, fun b cur T q _ _ => h.block b (heap_lt q)⟩
/-- A heap in blocks that were not there at w0. -/
def HI.In (w0 w : World) (bp bd : Nat) (C : List Int) : Prop := ∃ G, HI.At w bp bd C G ∧ (∀ b, b ∈ bp :: G → w0.heap.size ≤ b) ∧ Below w0.heap.size w0 w
theorem HI.In.older {w0 w w' : World} {bp bd : Nat} {C : List Int} (h : HI.In w0 w bp bd C) (b : Below w.heap.size w w') : HI.In w0 w' bp bd C := by
  obtain ⟨G, h1, h2, h3⟩ := h
  exact ⟨G, h1.below b, h2, bstep h3 b⟩
theorem HI.Less.kk {w w' : World} {bd : Nat} {F : Nat → Prop} (h : HI.Less w bd) (k : Keep F w w') (hF : ∀ b, F b → ∃ (cur : Array Value) (T : TypeId), w.heap[b]? = some (.cells cur T (0, 0)) ∧ T ≠ 4) : HI.Less w' bd := trivial
theorem HI.In.keep {w0 w w' : World} {bp bd : Nat} {C : List Int} {F : Nat → Prop} (h : HI.In w0 w bp bd C) (k : Keep F w w') (hF : ∀ b, F b → w0.heap.size ≤ b ∧ ∃ (cur : Array Value) (T : TypeId), w.heap[b]? = some (.cells cur T (0, 0)) ∧ T ≠ 62 ∧ T ≠ 59 ∧ T ≠ 4) : HI.In w0 w' bp bd C := by
  obtain ⟨G, ⟨A, n, c, q1, q2, q3⟩, h2, h3⟩ := h
  refine ⟨G, ⟨A, n, c, Arr.keep q1 k (fun q => ?_), q2.kk k (fun b hb => ?_), q3.same fun b hb => k.block b (q3.lt b hb) (fun q => ?_)⟩, h2, k.below (fun b hb => (hF b hb).1) h3 h3.size⟩
  · obtain ⟨_, cur, T, q4, q5, q6, _⟩ := hF bp q
    exact arr_ne q1 q4 q6.symm
  · obtain ⟨_, cur, T, q4, q5, q6, q7⟩ := hF b hb
    exact ⟨cur, T, q4, q7⟩
  · obtain ⟨_, cur, T, q4, q5, _⟩ := hF b q
    obtain ⟨cu, q8⟩ := q3.kind b hb
    rw [q4] at q8
    injection q8 with q8
    injection q8 with _ q8
    exact q5 q8
theorem HI.In.bel {w0 w : World} {bp bd : Nat} {C : List Int} (h : HI.In w0 w bp bd C) : Below w0.heap.size w0 w := by
  obtain ⟨G, h1, h2, h3⟩ := h; exact h3
theorem HI.apart_of {w w' : World} {bp bd : Nat} {C : List Int} {G : List Nat} (h : HI.At w bp bd C G) (k : Keep (· ∈ bp :: G) w w') : HI.Apart w w' := by
  obtain ⟨A, n, c, q1, q2, q3⟩ := h
  refine ⟨k.size, fun b cur T q t1 t2 => k.block b (heap_lt q) (fun hb => ?_)⟩
  rcases List.mem_cons.1 hb with e | hb
  · subst e; exact arr_ne q1 q t2.symm
  · obtain ⟨cu, q4⟩ := q3.kind b hb
    rw [q] at q4
    injection q4 with q4
    injection q4 with _ q4
    exact t1 q4
theorem HI.in_of {w0 w w' : World} {bp bd : Nat} {C C' : List Int} {G G' : List Nat} (h : HI.At w bp bd C G) (h2 : ∀ b, b ∈ bp :: G → w0.heap.size ≤ b) (h3 : Below w0.heap.size w0 w) (k : Keep (· ∈ bp :: G) w w') (h' : HI.At w' bp bd C' G') (f : Fresh G' G w) : HI.In w0 w' bp bd C' := by
  refine ⟨G', h', fun b hb => ?_, k.below h2 h3 h3.size⟩
  rcases List.mem_cons.1 hb with e | hb
  · subst e; exact h2 b (by simp)
  · rcases f b hb with q | q
    · exact h2 b (by simp [q])
    · have := h3.size; omega
theorem HI.new_in (bd : Nat) (w0 w : World) (hq : HI.Less w bd) (b : Below w0.heap.size w0 w) : Calls Try.prog 8 #[HI.fv bd] w fun e w' => e = .returned (.pointer (some ⟨w.heap.size, 0, none⟩)) ∧ HI.In w0 w' w.heap.size bd [] ∧ Below w.heap.size w w' :=
  (HI.new_any bd w hq).mono fun e w' ⟨h1, h2, h3, h4⟩ => ⟨h1, ⟨[], h2, fun q hq => by
    have : q = w.heap.size := by simpa using hq
    have := b.size
    omega, bstep b h3⟩, h3⟩
theorem HI.len_in (bp bd : Nat) (C : List Int) (w0 w : World) (h : HI.In w0 w bp bd C) : Calls Try.prog 13 #[.pointer (some ⟨bp, 0, none⟩)] w fun e w' => e = .returned (.int .i64 (C.length : Int)) ∧ w = w' := by
  obtain ⟨G, h1, h2, h3⟩ := h
  exact HI.len_any bp bd C G w h1
theorem HI.push_in (bp bd : Nat) (C : List Int) (x : Int) (w0 w : World) (h : HI.In w0 w bp bd C) (hs : C.length < 1000) : Calls Try.prog 10 #[.pointer (some ⟨bp, 0, none⟩), .int .i64 x] w fun e w' => e = .returned (.tuple #[]) ∧ ∃ C', HI.In w0 w' bp bd C' ∧ C'.Perm (C ++ [x]) ∧ HI.Apart w w' := by
  obtain ⟨G, h1, h2, h3⟩ := h
  exact (HI.push_any bp bd C G x w h1 hs).mono fun e w' ⟨q1, C', G', q2, q3, q4, q5⟩ => ⟨q1, C', HI.in_of h1 h2 h3 q5 q2 q4, q3, HI.apart_of h1 q5⟩
theorem HI.pop_in (bp bd : Nat) (C : List Int) (w0 w : World) (h : HI.In w0 w bp bd C) (hc : C ≠ []) (hs : C.length ≤ 1000) : Calls Try.prog 11 #[.pointer (some ⟨bp, 0, none⟩)] w fun e w' => ∃ x C', e = .returned (.tuple #[.int .i64 x, .bool true]) ∧ HI.Least C x ∧ HI.In w0 w' bp bd C' ∧ C.Perm (x :: C') ∧ HI.Apart w w' := by
  obtain ⟨G, h1, h2, h3⟩ := h
  exact (HI.pop_any bp bd C G w h1 hc hs).mono fun e w' ⟨x, C', G', q1, q2, q3, q4, q5, q6⟩ => ⟨x, C', q1, q2, HI.in_of h1 h2 h3 q6 q3 q5, q4, HI.apart_of h1 q6⟩
theorem HI.nop_in (bp bd : Nat) (w0 w : World) (h : HI.In w0 w bp bd []) : Calls Try.prog 11 #[.pointer (some ⟨bp, 0, none⟩)] w fun e w' => e = .returned (.tuple #[.int .i64 0, .bool false]) ∧ Below w.heap.size w w' := by
  obtain ⟨G, h1, h2, h3⟩ := h
  exact HI.pop_none bp bd G w h1
end Go.Proofs.Ytkgjbmlgbfejlaa

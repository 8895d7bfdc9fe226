/-
  Heaps of texts that a law made: what Push, Pop, Top, Len leave of everything else.
-/
import Derived.Test.YtkgjbmlgbfejlaaHsP
namespace Go.Proofs.Ytkgjbmlgbfejlaa
set_option linter.unusedVariables false
set_option linter.unusedSimpArgs false
open Go.RowKit

/-- Blocks of other kinds are as they were. -/
def TX.Apart (w w' : World) : Prop := w.heap.size ≤ w'.heap.size ∧ ∀ (b : Nat) (cur : Array Value) (T : TypeId), w.heap[b]? = some (.cells cur T (0, 0)) → T ≠ 78 → T ≠ 75 → w'.heap[b]? = w.heap[b]?
theorem TX.Apart.below {w w' : World} (h : Below w.heap.size w w') : TX.Apart w w' := ⟨h.size, fun b cur T q _ _ => h.block b (heap_lt q)⟩
/-- A heap in blocks that were not there at w0. -/
def TX.In (w0 w : World) (bp bd : Nat) (C : List ByteArray) : Prop := ∃ G, TX.At w bp bd C G ∧ (∀ b, b ∈ bp :: G → w0.heap.size ≤ b) ∧ Below w0.heap.size w0 w
theorem TX.In.older {w0 w w' : World} {bp bd : Nat} {C : List ByteArray} (h : TX.In w0 w bp bd C) (b : Below w.heap.size w w') : TX.In w0 w' bp bd C := by
  obtain ⟨G, h1, h2, h3⟩ := h
  exact ⟨G, h1.below b, h2, bstep h3 b⟩
theorem TX.Less.kk {w w' : World} {bd : Nat} {F : Nat → Prop} (h : TX.Less w bd) (k : Keep F w w') (hF : ∀ b, F b → ∃ (cur : Array Value) (T : TypeId), w.heap[b]? = some (.cells cur T (0, 0)) ∧ T ≠ 4) : TX.Less w' bd := trivial
theorem TX.In.keep {w0 w w' : World} {bp bd : Nat} {C : List ByteArray} {F : Nat → Prop} (h : TX.In w0 w bp bd C) (k : Keep F w w') (hF : ∀ b, F b → w0.heap.size ≤ b ∧ ∃ (cur : Array Value) (T : TypeId), w.heap[b]? = some (.cells cur T (0, 0)) ∧ T ≠ 78 ∧ T ≠ 75 ∧ T ≠ 4) : TX.In w0 w' bp bd C := by
  obtain ⟨G, ⟨A, n, c, q1, q2, q3⟩, h2, h3⟩ := h
  refine ⟨G, ⟨A, n, c, Arr.keep q1 k (fun q => ?_), q2.kk k (fun b hb => ?_), q3.same fun b hb => k.block b (q3.lt b hb) (fun q => ?_)⟩, h2, k.below (fun b hb => (hF b hb).1) h3 h3.size⟩
  · obtain ⟨_, cur, T, q4, q5, q6, _⟩ := hF bp q
    exact arr_ne q1 q4 q6.symm
  · obtain ⟨_, cur, T, q4, q5, q6, q7⟩ := hF b hb
    exact ⟨cur, T, q4, q7⟩
  · obtain ⟨_, cur, T, q4, q5, _⟩ := hF b q
    obtain ⟨cu, q8⟩ := q3.kind b hb
    rw [q4] at q8
    injection q8 with q8
    injection q8 with _ q8
    exact q5 q8
theorem TX.In.bel {w0 w : World} {bp bd : Nat} {C : List ByteArray} (h : TX.In w0 w bp bd C) : Below w0.heap.size w0 w := by
  obtain ⟨G, h1, h2, h3⟩ := h; exact h3
theorem TX.apart_of {w w' : World} {bp bd : Nat} {C : List ByteArray} {G : List Nat} (h : TX.At w bp bd C G) (k : Keep (· ∈ bp :: G) w w') : TX.Apart w w' := by
  obtain ⟨A, n, c, q1, q2, q3⟩ := h
  refine ⟨k.size, fun b cur T q t1 t2 => k.block b (heap_lt q) (fun hb => ?_)⟩
  rcases List.mem_cons.1 hb with e | hb
  · subst e; exact arr_ne q1 q t2.symm
  · obtain ⟨cu, q4⟩ := q3.kind b hb
    rw [q] at q4
    injection q4 with q4
    injection q4 with _ q4
    exact t1 q4
theorem TX.in_of {w0 w w' : World} {bp bd : Nat} {C C' : List ByteArray} {G G' : List Nat} (h : TX.At w bp bd C G) (h2 : ∀ b, b ∈ bp :: G → w0.heap.size ≤ b) (h3 : Below w0.heap.size w0 w) (k : Keep (· ∈ bp :: G) w w') (h' : TX.At w' bp bd C' G') (f : Fresh G' G w) : TX.In w0 w' bp bd C' := by
  refine ⟨G', h', fun b hb => ?_, k.below h2 h3 h3.size⟩
  rcases List.mem_cons.1 hb with e | hb
  · subst e; exact h2 b (by simp)
  · rcases f b hb with q | q
    · exact h2 b (by simp [q])
    · have := h3.size; omega
theorem TX.new_in (bd : Nat) (w0 w : World) (hq : TX.Less w bd) (b : Below w0.heap.size w0 w) : Calls Try.prog 19 #[TX.fv bd] w fun e w' => e = .returned (.pointer (some ⟨w.heap.size, 0, none⟩)) ∧ TX.In w0 w' w.heap.size bd [] ∧ Below w.heap.size w w' :=
  (TX.new_any bd w hq).mono fun e w' ⟨h1, h2, h3, h4⟩ => ⟨h1, ⟨[], h2, fun q hq => by
    have : q = w.heap.size := by simpa using hq
    have := b.size
    omega, bstep b h3⟩, h3⟩
theorem TX.len_in (bp bd : Nat) (C : List ByteArray) (w0 w : World) (h : TX.In w0 w bp bd C) : Calls Try.prog 23 #[.pointer (some ⟨bp, 0, none⟩)] w fun e w' => e = .returned (.int .i64 (C.length : Int)) ∧ w = w' := by
  obtain ⟨G, h1, h2, h3⟩ := h
  exact TX.len_any bp bd C G w h1
theorem TX.push_in (bp bd : Nat) (C : List ByteArray) (x : ByteArray) (w0 w : World) (h : TX.In w0 w bp bd C) (hs : C.length < 1000) : Calls Try.prog 21 #[.pointer (some ⟨bp, 0, none⟩), .string x] w fun e w' => e = .returned (.tuple #[]) ∧ ∃ C', TX.In w0 w' bp bd C' ∧ C'.Perm (C ++ [x]) ∧ TX.Apart w w' := by
  obtain ⟨G, h1, h2, h3⟩ := h
  exact (TX.push_any bp bd C G x w h1 hs).mono fun e w' ⟨q1, C', G', q2, q3, q4, q5⟩ => ⟨q1, C', TX.in_of h1 h2 h3 q5 q2 q4, q3, TX.apart_of h1 q5⟩
theorem TX.pop_in (bp bd : Nat) (C : List ByteArray) (w0 w : World) (h : TX.In w0 w bp bd C) (hc : C ≠ []) (hs : C.length ≤ 1000) : Calls Try.prog 22 #[.pointer (some ⟨bp, 0, none⟩)] w fun e w' => ∃ x C', e = .returned (.tuple #[.string x, .bool true]) ∧ TX.Least C x ∧ TX.In w0 w' bp bd C' ∧ C.Perm (x :: C') ∧ TX.Apart w w' := by
  obtain ⟨G, h1, h2, h3⟩ := h
  exact (TX.pop_any bp bd C G w h1 hc hs).mono fun e w' ⟨x, C', G', q1, q2, q3, q4, q5, q6⟩ => ⟨x, C', q1, q2, TX.in_of h1 h2 h3 q6 q3 q5, q4, TX.apart_of h1 q6⟩
theorem TX.nop_in (bp bd : Nat) (w0 w : World) (h : TX.In w0 w bp bd []) : Calls Try.prog 22 #[.pointer (some ⟨bp, 0, none⟩)] w fun e w' => e = .returned (.tuple #[.string ⟨#[]⟩, .bool false]) ∧ Below w.heap.size w w' := by
  obtain ⟨G, h1, h2, h3⟩ := h
  exact TX.pop_none bp bd G w h1
end Go.Proofs.Ytkgjbmlgbfejlaa
